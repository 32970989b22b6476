/- The parts ahead of a place, those behind it, parts laid one behind another. Condition: at most a hundred thousand parts. -/
import Derived.Test.YtccahhehbpahoaaBoE
namespace Go.Proofs.Ytccahhehbpahoaa
open Go.ChangeShapes Go.WideShapes Go.ChangeAt Go.RowKit
set_option maxRecDepth 4000
set_option linter.unusedVariables false
attribute [local go_sem ↓] Go.wp_at_zero Go.wp_at_succ
/-- Parts that are worked on: numbers that are not too great. -/
def Bd (l : List Pt) : Prop := ∀ p ∈ l, 0 ≤ p.off ∧ p.off ≤ 2199023255552 ∧ 1 ≤ p.len ∧ p.len ≤ 64 ∧ 0 ≤ p.pos ∧ p.pos ≤ 64
theorem Bd.get {l : List Pt} (h : Bd l) {i : Nat} (hi : i < l.length) : 0 ≤ (l.getD i pt0).off ∧ (l.getD i pt0).off ≤ 2199023255552 ∧ 1 ≤ (l.getD i pt0).len ∧ (l.getD i pt0).len ≤ 64 ∧ 0 ≤ (l.getD i pt0).pos ∧ (l.getD i pt0).pos ≤ 64 := by
  refine h _ ?_
  rw [List.getD_eq_getElem?_getD, List.getElem?_eq_getElem hi]
  exact List.getElem_mem hi
theorem bd_of_ok {last size : Int} {l : List Pt} (h : okB last size l = true) (h0 : 0 ≤ last) (h1 : size ≤ 1099511627776) : Bd l := by
  intro p hp
  obtain ⟨⟨a1, a2, a3, a4, a5, a6⟩, b, c⟩ := okB_mem h hp
  omega
/-- What is put behind a row: one part. -/
theorem POwn.one {e t : TypeId} (K : Kind t e) {B : Nat} {W : World} {v : Value} {l : List Pt} (h : POwn e B W v l) (p : Pt) (hl : l.length < 1000000) (hB : B ≤ W.heap.size) :
    ∃ v' w', (∀ ty, (Builtin.append_ #[t, t] ty #[v, .slice (some ⟨W.heap.size, 0, none⟩) 1 1]).run Try.prog (W.alloc (.cells #[.int .i64 p.off, .int .i64 p.len, .int .i64 p.ch, .int .i64 p.pos] e)) = .ok v' w') ∧ POwn e B w' v' (l ++ [p]) ∧ Below B W w' := by
  have hb := (Below.refl W.heap.size W).alloc (Nat.le_refl _) (.cells #[.int .i64 p.off, .int .i64 p.len, .int .i64 p.ch, .int .i64 p.pos] e)
  obtain ⟨v', w', h1, h2, h3, _⟩ := (h.below hb).app K (some ⟨W.heap.size, 0, none⟩) [p] 1 1 rfl (prow_one (heap_alloc_new W _)) (by omega) (Nat.le_trans hB hb.size)
  exact ⟨v', w', h1, h2, (hb.mono hB).trans h3⟩
theorem POwn.one2 {e t : TypeId} (K : Kind t e) {B : Nat} {W : World} {v : Value} {l : List Pt} (h : POwn e B W v l) (p : Pt) (cs : Array Value) (e1 : TypeId) (hl : l.length < 1000000) (hB : B ≤ W.heap.size) :
    ∃ v' w', (∀ ty, (Builtin.append_ #[t, t] ty #[v, .slice (some ⟨W.heap.size + 1, 0, none⟩) 1 1]).run Try.prog ((W.alloc (.cells cs e1)).alloc (.cells #[.int .i64 p.off, .int .i64 p.len, .int .i64 p.ch, .int .i64 p.pos] e)) = .ok v' w') ∧ POwn e B w' v' (l ++ [p]) ∧ Below B W w' := by
  have hb := (Below.refl W.heap.size W).alloc (Nat.le_refl _) (.cells cs e1)
  obtain ⟨v', w', h1, h2, h3⟩ := (h.below hb).one K p hl (Nat.le_trans hB hb.size)
  have hs : (W.alloc (.cells cs e1)).heap.size = W.heap.size + 1 := by simp
  rw [hs] at h1
  exact ⟨v', w', h1, h2, (hb.mono hB).trans h3⟩
set_option maxHeartbeats 2000000 in
theorem ahead_any {w : World} (a : Option Addr) (l : List Pt) (n cap : Nat) (hn : l.length = n) (hr : PRow w a l) (hm : n ≤ 100000) (hbd : Bd l) (off : Int) (ho : 0 ≤ off) (ho2 : off ≤ 2199023255552) :
    Calls Try.prog 30 #[.slice a n cap, .int .i64 off] w fun e w' => ∃ v, e = .returned v ∧ POwn 58 w.heap.size w' v (ahead off l) ∧ Below w.heap.size w w' := by
  have HR := hid hr
  have HN := hid hn
  have HBD := hid hbd
  clear hr hn hbd
  go_enter Try.func30, Try.ntmps30
  go_wp2_with fail
  go_loopg [5, 10] n (fun gk v5 v10 wr => ∃ (i : Nat) (acc : List Pt), i + gk = n ∧ v10 = .int .i64 (i : Int) ∧ acc.length ≤ i ∧ Hid (POwn 58 w.heap.size wr v5 acc) ∧ Hid (acc ++ ahead off (l.drop i) = ahead off l) ∧ Hid (Below w.heap.size w wr))
  case atStart => exact ⟨0, [], by omega, rfl, Nat.le_refl _, hid (POwn.nil _ _ _), hid rfl, hid (Below.refl _ _)⟩
  case round =>
    obtain ⟨i, acc, hi, rfl, hac, HO, HL, HB⟩ := hrel
    by_cases hlt : i < n
    · have g : (i : Int) < (n : Int) := by omega
      obtain ⟨b, o, rfl, hblt, hpa⟩ := (HR.out.below HB.out).part (i := i) (by rw [HN.out]; exact hlt)
      have HD := hid (drop_cons (l := l) (i := i) (by rw [HN.out]; exact hlt))
      have hbx := HBD.out.get (i := i) (by rw [HN.out]; exact hlt)
      obtain ⟨x, hx⟩ : ∃ x, l.getD i pt0 = x := ⟨_, rfl⟩
      rw [hx] at hpa HD hbx
      obtain ⟨xo, xl, xc, xa⟩ := x
      obtain ⟨e0, e1, e2, e3⟩ := hpa
      simp only at e0 e1 e2 e3 hbx
      obtain ⟨b1, b2, b3, b4, b5, b6⟩ := hbx
      clear hx hblt
      by_cases hb : off ≤ xo
      · have HB2 := hid (HB.out.trans (((Below.refl wr.heap.size wr).alloc (Nat.le_refl _) (.cells #[.int .i64 xo, .int .i64 xl, .int .i64 xc, .int .i64 xa] 58)).mono HB.out.size))
        have HO2 := hid (HO.out.below ((Below.refl wr.heap.size wr).alloc (Nat.le_refl _) (.cells #[.int .i64 xo, .int .i64 xl, .int .i64 xc, .int .i64 xa] 58)))
        have HL2 : Hid (acc = ahead off l) := by
          show _ = _
          rw [← HL.out, HD.out]
          simp [ahead, hb]
        clear HO HL HB
        go_wp2_with fail
        go_ret
        exact ⟨_, rfl, by rw [← HL2.out]; exact HO2.out, HB2.out⟩
      · obtain ⟨M, hM⟩ : ∃ M, min xl (off - xo) = M := ⟨_, rfl⟩
        have hM1 : (if off - xo < xl then off - xo else xl) = M := by rw [← hM]; omega
        have hM2 : (if xl ≤ off - xo then xl else off - xo) = M := by rw [← hM]; omega
        have HM := hid hM
        clear hM
        obtain ⟨v', w', hrun, ho', hb'⟩ := HO.out.one2 kind27 ⟨xo, M, xc, xa⟩ #[.int .i64 xo, .int .i64 M, .int .i64 xc, .int .i64 xa] 58 (by omega) HB.out.size
        simp only at hrun
        have HRUN := hid hrun
        have HO' := hid ho'
        have HB' := hid (HB.out.trans hb')
        have HL' : Hid ((acc ++ [⟨xo, M, xc, xa⟩]) ++ ahead off (l.drop (i + 1)) = ahead off l) := by
          show _ = _
          rw [← HL.out, HD.out, List.append_assoc]
          simp only [ahead, if_neg hb, cut, HM.out, List.singleton_append]
        clear hrun ho' hb'
        go_wp2_with (at_builtin; refine step_app _ 27 rfl _ _ rfl _ _ rfl rfl _ _ HRUN.out ?_)
        go_roundg (gk - 1)
        case measure => omega
        case rel => exact ⟨i + 1, _, by omega, by go_num, by rw [List.length_append]; simp; omega, HO', HL', HB'⟩
    · have g : ¬ (i : Int) < (n : Int) := by omega
      have HTT : Hid (acc = ahead off l) := by
        show _ = _
        rw [← HL.out, List.drop_of_length_le (by rw [HN.out]; omega)]
        simp [ahead]
      go_wp2_with fail
      go_ret
      exact ⟨_, rfl, by rw [← HTT.out]; exact HO.out, HB.out⟩
set_option maxHeartbeats 2000000 in
theorem behind_any {w : World} (a : Option Addr) (l : List Pt) (n cap : Nat) (hn : l.length = n) (hr : PRow w a l) (hm : n ≤ 100000) (hbd : Bd l) (off : Int) (ho : 0 ≤ off) (ho2 : off ≤ 2199023255552) :
    Calls Try.prog 32 #[.slice a n cap, .int .i64 off] w fun e w' => ∃ v, e = .returned v ∧ POwn 58 w.heap.size w' v (behind off l) ∧ Below w.heap.size w w' := by
  have HR := hid hr
  have HN := hid hn
  have HBD := hid hbd
  clear hr hn hbd
  go_enter Try.func32, Try.ntmps32
  go_wp2_with fail
  go_loopg [5, 11] n (fun gk v5 v10 wr => ∃ (i : Nat) (acc : List Pt), i + gk = n ∧ v10 = .int .i64 (i : Int) ∧ acc.length ≤ i ∧ Hid (POwn 58 w.heap.size wr v5 acc) ∧ Hid (acc ++ behind off (l.drop i) = behind off l) ∧ Hid (Below w.heap.size w wr))
  case atStart => exact ⟨0, [], by omega, rfl, Nat.le_refl _, hid (POwn.nil _ _ _), hid rfl, hid (Below.refl _ _)⟩
  case round =>
    obtain ⟨i, acc, hi, rfl, hac, HO, HL, HB⟩ := hrel
    by_cases hlt : i < n
    · have g : (i : Int) < (n : Int) := by omega
      obtain ⟨b, o, rfl, hblt, hpa⟩ := (HR.out.below HB.out).part (i := i) (by rw [HN.out]; exact hlt)
      have HD := hid (drop_cons (l := l) (i := i) (by rw [HN.out]; exact hlt))
      have hbx := HBD.out.get (i := i) (by rw [HN.out]; exact hlt)
      obtain ⟨x, hx⟩ : ∃ x, l.getD i pt0 = x := ⟨_, rfl⟩
      rw [hx] at hpa HD hbx
      obtain ⟨xo, xl, xc, xa⟩ := x
      obtain ⟨e0, e1, e2, e3⟩ := hpa
      simp only at e0 e1 e2 e3 hbx
      obtain ⟨b1, b2, b3, b4, b5, b6⟩ := hbx
      have hbp := (Below.refl wr.heap.size wr).alloc (Nat.le_refl _) (.cells #[.int .i64 xo, .int .i64 xl, .int .i64 xc, .int .i64 xa] 58)
      have HP := hid (heap_alloc_new wr (.cells #[.int .i64 xo, .int .i64 xl, .int .i64 xc, .int .i64 xa] 58))
      have HBP := hid (HB.out.trans (hbp.mono HB.out.size))
      have HOP := hid (HO.out.below hbp)
      clear hx hblt hbp
      go_wp2_with fail
      generalize wr.alloc (.cells #[.int .i64 xo, .int .i64 xl, .int .i64 xc, .int .i64 xa] 58) = w2 at *
      generalize wr.heap.size = y at *
      refine (end_any w2 xo xl xc xa (by omega) (by omega)).mono ?_
      rintro e w3 ⟨rfl, hb3⟩
      have hp3 := (hb3.block y (lt_of_some HP.out)).trans HP.out
      have HB3 := hid (HBP.out.trans (hb3.mono HBP.out.size))
      have HO3 := hid (HOP.out.below hb3)
      have c0 : w3.cell? ⟨y, 0, none⟩ = some (.int .i64 xo) := by rw [cell_of_row w3 y 0 _ 58 (0, 0) hp3]; rfl
      have c1 : w3.cell? ⟨y, 1, none⟩ = some (.int .i64 xl) := by rw [cell_of_row w3 y 1 _ 58 (0, 0) hp3]; rfl
      have c2 : w3.cell? ⟨y, 2, none⟩ = some (.int .i64 xc) := by rw [cell_of_row w3 y 2 _ 58 (0, 0) hp3]; rfl
      have c3 : w3.cell? ⟨y, 3, none⟩ = some (.int .i64 xa) := by rw [cell_of_row w3 y 3 _ 58 (0, 0) hp3]; rfl
      clear hb3 hp3 e0 e1 e2 e3 HB HO HP HBP HOP
      by_cases hb : xo + xl ≤ off
      · have HL2 : Hid (acc ++ behind off (l.drop (i + 1)) = behind off l) := by
          show _ = _
          rw [← HL.out, HD.out]
          simp only [behind, if_pos hb]
        go_wp2_with fail
        go_roundg (gk - 1)
        case measure => omega
        case rel => exact ⟨i + 1, _, by omega, by go_num, by omega, HO3, HL2, HB3⟩
      · have hb2 : ¬ xo + xl ≤ off := hb
        by_cases hge : 0 < off - xo
        · have HMX : Hid (max 0 (off - xo) = off - xo) := by show _ = _; omega
          have hlt2 : off - xo < xl := by omega
          obtain ⟨v', w', hrun, ho', hb'⟩ := HO3.out.one kind27 ⟨xo + (off - xo), xl - (off - xo), xc, xa + (off - xo)⟩ (by omega) HB3.out.size
          simp only at hrun
          have HRUN := hid hrun
          have HO' := hid ho'
          have HB' := hid (HB3.out.trans hb')
          have HL' : Hid ((acc ++ [⟨xo + (off - xo), xl - (off - xo), xc, xa + (off - xo)⟩]) ++ behind off (l.drop (i + 1)) = behind off l) := by
            show _ = _
            rw [← HL.out, HD.out, List.append_assoc]
            simp only [behind, if_neg hb, rest, List.singleton_append]
            rw [HMX.out]
            try simp
          clear hrun ho' hb' HO3 HL HB3 hb
          go_wp2_with (at_builtin; refine step_app _ 27 rfl _ _ rfl _ _ rfl rfl _ _ HRUN.out ?_)
          go_roundg (gk - 1)
          case measure => omega
          case rel => exact ⟨i + 1, _, by omega, by go_num, by rw [List.length_append]; simp; omega, HO', HL', HB'⟩
        · have HMX : Hid (max 0 (off - xo) = 0) := by show _ = _; omega
          have hle : off - xo ≤ 0 := by omega
          obtain ⟨v', w', hrun, ho', hb'⟩ := HO3.out.one kind27 ⟨xo, xl, xc, xa⟩ (by omega) HB3.out.size
          simp only at hrun
          have HRUN := hid hrun
          have HO' := hid ho'
          have HB' := hid (HB3.out.trans hb')
          have HL' : Hid ((acc ++ [⟨xo, xl, xc, xa⟩]) ++ behind off (l.drop (i + 1)) = behind off l) := by
            show _ = _
            rw [← HL.out, HD.out, List.append_assoc]
            simp only [behind, if_neg hb, rest, List.singleton_append]
            rw [HMX.out]
            try simp
          clear hrun ho' hb' HO3 HL HB3 hb
          go_wp2_with (at_builtin; refine step_app _ 27 rfl _ _ rfl _ _ rfl rfl _ _ HRUN.out ?_)
          go_roundg (gk - 1)
          case measure => omega
          case rel => exact ⟨i + 1, _, by omega, by go_num, by rw [List.length_append]; simp; omega, HO', HL', HB'⟩
    · have g : ¬ (i : Int) < (n : Int) := by omega
      have HTT : Hid (acc = behind off l) := by
        show _ = _
        rw [← HL.out, List.drop_of_length_le (by rw [HN.out]; omega)]
        simp [behind]
      go_wp2_with fail
      go_ret
      exact ⟨_, rfl, by rw [← HTT.out]; exact HO.out, HB.out⟩
end Go.Proofs.Ytccahhehbpahoaa
