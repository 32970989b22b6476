/- What Trunc of a body answers; the document's own parts outside a range. Condition: at most a hundred thousand parts. -/
import Derived.Test.YtccahhehbpahoaaBoH
import Derived.Test.YtccahhehbpahoaaBoC
namespace Go.Proofs.Ytccahhehbpahoaa
open Go.ChangeShapes Go.WideShapes Go.ChangeAt Go.RowKit
set_option maxRecDepth 4000
set_option linter.unusedVariables false
attribute [local go_sem ↓] Go.wp_at_zero Go.wp_at_succ
set_option maxHeartbeats 2000000 in
theorem trunc_any {w : World} (size : Int) (a : Option Addr) (b : List Pt) (n cap : Nat) (hn : b.length = n) (hr : PRow w a b) (hm : n ≤ 100000) (z : Int) (hw1 : -9223372036854775808 ≤ z) (hw2 : z < 9223372036854775808) :
    Calls Try.prog 14 #[.agg #[.int .i64 size, .slice a n cap], .int .i64 z] w fun e w' => Gave w.heap.size w' e (truncB size b z) ∧ Below w.heap.size w w' := by
  have hb1 := ((Below.refl w.heap.size w).alloc (Nat.le_refl _) (.cells #[.int .i64 size, .slice a n cap] 29)).alloc (by simp) (.cells #[.int .i64 0, .slice none 0 0] 29)
  have HT := hid (two_new w size (.slice a n cap))
  have HB1 := hid hb1
  have HR := hid (hr.below hb1)
  have HN := hid hn
  clear hb1 hr hn
  go_enter Try.func14, Try.ntmps14
  go_wp2_with fail
  generalize (w.alloc (.cells #[.int .i64 size, .slice a n cap] 29)).alloc (.cells #[.int .i64 0, .slice none 0 0] 29) = w1 at *
  obtain ⟨q, hq⟩ : ∃ q, w.heap.size = q := ⟨_, rfl⟩
  have HSZ : Hid (w.heap.size ≤ w1.heap.size) := HB1.out.size
  have HQR : Hid (w.heap.size ≤ q ∧ q < w1.heap.size ∧ q + 1 < w1.heap.size) := ⟨by omega, by have := lt_of_some HT.out.arg; omega, by have := lt_of_some HT.out.res; omega⟩
  rw [hq] at HT ⊢
  clear hq
  refine (may_any16 size a b n cap HN.out HR.out (by omega)).mono ?_
  rintro e w2 ⟨rfl, hb2⟩
  have HB2 := hid hb2
  have HT2 := hid (HT.out.below hb2)
  clear hb2
  cases hmay : mayB size b with
  | false =>
    have HE : Hid (truncB size b z = (0, [], 1)) := by show _ = _; unfold truncB; rw [hmay]; rfl
    have HST := hid (store_body size29 (z0 := .int .i64 0) (z1 := .slice none 0 0) HT2.out.res rfl rfl)
    clear hmay
    have tok : True := trivial
    go_wp2_with (have _t := tok; refine step_store 29 rfl _ _ rfl _ HST.out ?_; clear tok)
    refine bodyPost_ret (ret_body Try.results14 _ _ (q + 1) _ _ rfl (setRow_heap w2 (q + 1) _ _ 29 (0, 0) HT2.out.res)) rfl ⟨?_, ?_⟩
    · rw [HE.out]
      exact ⟨_, rfl, POwn.nil _ _ _⟩
    · exact below_setRow (HB1.out.trans (HB2.out.mono HSZ.out)) (by have := HQR.out; omega) _
  | true =>
  have HMAY := hid hmay
  have hE : ∀ r, (if 0 ≤ z ∧ z ≤ 1099511627776 then (z, ahead z b, 0) else (0, [], 9)) = r → truncB size b z = r := fun r h => by unfold truncB; rw [hmay, if_pos rfl]; exact h
  clear hmay
  by_cases h0 : 0 ≤ z
  case neg =>
    have HE : Hid (truncB size b z = (0, [], 9)) := hE _ (if_neg (by omega))
    have HST := hid (store_body size29 (z0 := .int .i64 0) (z1 := .slice none 0 0) HT2.out.res rfl rfl)
    clear hE
    have tok : True := trivial
    go_wp2_with (have _t := tok; refine step_store 29 rfl _ _ rfl _ HST.out ?_; clear tok)
    refine bodyPost_ret (ret_body Try.results14 _ _ (q + 1) _ _ rfl (setRow_heap w2 (q + 1) _ _ 29 (0, 0) HT2.out.res)) rfl ⟨?_, ?_⟩
    · rw [HE.out]
      exact ⟨_, rfl, POwn.nil _ _ _⟩
    · exact below_setRow (HB1.out.trans (HB2.out.mono HSZ.out)) (by have := HQR.out; omega) _
  by_cases h1 : z ≤ 1099511627776
  case neg =>
    have HE : Hid (truncB size b z = (0, [], 9)) := hE _ (if_neg (by omega))
    have HST := hid (store_body size29 (z0 := .int .i64 0) (z1 := .slice none 0 0) HT2.out.res rfl rfl)
    clear hE
    have tok : True := trivial
    go_wp2_with (have _t := tok; refine step_store 29 rfl _ _ rfl _ HST.out ?_; clear tok)
    refine bodyPost_ret (ret_body Try.results14 _ _ (q + 1) _ _ rfl (setRow_heap w2 (q + 1) _ _ 29 (0, 0) HT2.out.res)) rfl ⟨?_, ?_⟩
    · rw [HE.out]
      exact ⟨_, rfl, POwn.nil _ _ _⟩
    · exact below_setRow (HB1.out.trans (HB2.out.mono HSZ.out)) (by have := HQR.out; omega) _
  have HE : Hid (truncB size b z = (z, ahead z b, 0)) := hE _ (if_pos ⟨h0, h1⟩)
  clear hE
  obtain ⟨hsz0, hsz1, hok⟩ := mayB_iff.1 HMAY.out
  have HBD := hid (bd_of_ok hok (Int.le_refl _) hsz1)
  have e1 := HT2.out.cells.2.1
  clear hok
  go_wp2_with fail
  refine (ahead_any a b n cap HN.out (HR.out.below HB2.out) hm HBD.out z h0 (by omega)).mono ?_
  rintro e w3 ⟨v3, rfl, ho3, hb3⟩
  obtain ⟨a3, c3, hv3, _⟩ := ho3.row
  obtain ⟨N3, hN3⟩ : ∃ N3, (ahead z b).length = N3 := ⟨_, rfl⟩
  rw [hN3] at hv3
  subst hv3
  have HO3 := hid ho3
  have HB3 := hid (HB2.out.trans (hb3.mono HB2.out.size))
  have HT3 := hid (HT2.out.below hb3)
  have HST := hid (store_body size29 (z0 := .int .i64 z) (z1 := .slice a3 N3 c3) HT3.out.res rfl rfl)
  clear ho3 hb3 e1 hN3
  have tok : True := trivial
  go_wp2_with (have _t := tok; refine step_store 29 rfl _ _ rfl _ HST.out ?_; clear tok)
  refine bodyPost_ret (ret_body Try.results14 _ _ (q + 1) _ _ rfl (setRow_heap w3 (q + 1) _ _ 29 (0, 0) HT3.out.res)) rfl ⟨?_, ?_⟩
  · rw [HE.out]
    exact ⟨_, rfl, (HO3.out.setRow (by have := HQR.out; have := HB2.out.size; omega) _).low (Nat.le_trans HSZ.out HB2.out.size)⟩
  · exact below_setRow (HB1.out.trans (HB3.out.mono HSZ.out)) (by have := HQR.out; omega) _
/-- One part more behind a row, while other blocks stay. -/
theorem POwn.put {e t : TypeId} (K : Kind t e) {B : Nat} {W : World} {v : Value} {l : List Pt} (h : POwn e B W v l) (p : Pt) (hl : l.length < 1000000) (hB : B ≤ W.heap.size) (y : Nat) (hy : W.heap.size = y) :
    ∃ v' w', (∀ ty, (Builtin.append_ #[t, t] ty #[v, .slice (some ⟨y, 0, none⟩) 1 1]).run Try.prog (W.alloc (.cells #[.int .i64 p.off, .int .i64 p.len, .int .i64 p.ch, .int .i64 p.pos] e)) = .ok v' w') ∧ POwn e B w' v' (l ++ [p]) ∧ Below B W w' ∧ (∀ k o, W.heap[k]? = some o → v.ownBlock ≠ some k → w'.heap[k]? = some o) ∧ W.heap.size ≤ w'.heap.size := by
  subst hy
  have hb := (Below.refl W.heap.size W).alloc (Nat.le_refl _) (.cells #[.int .i64 p.off, .int .i64 p.len, .int .i64 p.ch, .int .i64 p.pos] e)
  obtain ⟨v', w', h1, h2, h3, h4⟩ := (h.below hb).app K (some ⟨W.heap.size, 0, none⟩) [p] 1 1 rfl (prow_one (heap_alloc_new W _)) (by omega) (Nat.le_trans hB hb.size)
  refine ⟨v', w', h1, h2, (hb.mono hB).trans h3, fun k o hk hne => ?_, Nat.le_trans hb.size h4.size⟩
  have hk1 := (hb.block k (lt_of_some hk)).trans hk
  exact (h4.block k (lt_of_some hk1) (by intro e; exact hne (by first | exact e | exact e.symm))).trans hk1
theorem POwn.not_new {e : TypeId} {B : Nat} {W : World} {v : Value} {l : List Pt} (h : POwn e B W v l) {k : Nat} (hk : W.heap.size ≤ k) : v.ownBlock ≠ some k := by
  intro e1
  obtain ⟨_, cur, hc⟩ := owns_in h e1
  have := lt_of_some hc
  omega
set_option maxHeartbeats 4000000 in
theorem wout_any {w : World} (a : Option Addr) (l : List Pt) (n cap : Nat) (hn : l.length = n) (hr : PRow w a l) (hm : n ≤ 100000) (hbd : Bd l) (lo hi : Int) (hlo : 0 ≤ lo) (hlo2 : lo ≤ 2199023255552) (hhi : lo ≤ hi) (hhi2 : hi ≤ 4611686018427387904) :
    Calls Try.prog 34 #[.slice a n cap, .int .i64 lo, .int .i64 hi] w fun e w' => ∃ v, e = .returned v ∧ POwn 45 w.heap.size w' v (wout lo hi l) ∧ Below w.heap.size w w' := by
  have HR := hid hr
  have HN := hid hn
  have HBD := hid hbd
  clear hr hn hbd
  go_enter Try.func34, Try.ntmps34
  go_wp2_with fail
  go_loopg [7, 8] n (fun gk v7 v8 wr => ∃ (i : Nat) (acc : List Pt), i + gk = n ∧ v8 = .int .i64 (i : Int) ∧ acc.length ≤ 2 * i ∧ Hid (POwn 45 w.heap.size wr v7 acc) ∧ Hid (acc ++ wout lo hi (l.drop i) = wout lo hi l) ∧ Hid (Below w.heap.size w wr))
  case atStart => exact ⟨0, [], by omega, rfl, Nat.le_refl _, hid (POwn.nil _ _ _), hid rfl, hid (Below.refl _ _)⟩
  case round =>
    obtain ⟨i, acc, hik, rfl, hac, HO, HL, HB⟩ := hrel
    by_cases hlt : i < n
    · have g : (i : Int) < (n : Int) := by omega
      obtain ⟨b, o, rfl, hblt, hpa⟩ := (HR.out.below HB.out).part (i := i) (by rw [HN.out]; exact hlt)
      have HD := hid (drop_cons (l := l) (i := i) (by rw [HN.out]; exact hlt))
      have hbx := HBD.out.get (i := i) (by rw [HN.out]; exact hlt)
      obtain ⟨x, hx⟩ : ∃ x, l.getD i pt0 = x := ⟨_, rfl⟩
      rw [hx] at hpa HD hbx
      obtain ⟨xo, xl, xc, xa⟩ := x
      obtain ⟨e0, e1, e2, e3⟩ := hpa
      simp only at e0 e1 e2 e3 hbx
      obtain ⟨b1, b2, b3, b4, b5, b6⟩ := hbx
      clear hx hblt
      by_cases hb : xo < lo
      · by_cases hh : hi < xo + xl
        · have hlt2 : lo < xo + xl := by omega
          have hb1 := ((Below.refl wr.heap.size wr).alloc (Nat.le_refl _) (.cells #[.int .i64 xo, .int .i64 xl, .int .i64 xc, .int .i64 xa] 45)).alloc (by simp) (.cells #[.int .i64 xo, .int .i64 (lo - xo), .int .i64 xc, .int .i64 xa] 45)
          have hp1 : ((wr.alloc (.cells #[.int .i64 xo, .int .i64 xl, .int .i64 xc, .int .i64 xa] 45)).alloc (.cells #[.int .i64 xo, .int .i64 (lo - xo), .int .i64 xc, .int .i64 xa] 45)).heap[wr.heap.size]? = some (.cells #[.int .i64 xo, .int .i64 xl, .int .i64 xc, .int .i64 xa] 45 (0, 0)) := by
            rw [heap_alloc_old _ _ (by simp), heap_alloc_new]
          obtain ⟨v', w', hrun, ho', hb', hk', hs'⟩ := (HO.out.below hb1).put kind22 ⟨xo, lo - xo, xc, xa⟩ (by omega) (Nat.le_trans HB.out.size hb1.size) (wr.heap.size + 1 + 1) (by simp)
          have hp2 := hk' _ _ hp1 (HO.out.not_new (Nat.le_refl _))
          simp only at hrun
          have HRUN := hid hrun
          have HB1 := hid (HB.out.trans ((hb1.mono HB.out.size).trans hb'))
          have c0 : w'.cell? ⟨wr.heap.size, 0, none⟩ = some (.int .i64 xo) := by rw [cell_of_row w' _ 0 _ 45 (0, 0) hp2]; rfl
          have c1 : w'.cell? ⟨wr.heap.size, 1, none⟩ = some (.int .i64 xl) := by rw [cell_of_row w' _ 1 _ 45 (0, 0) hp2]; rfl
          have c2 : w'.cell? ⟨wr.heap.size, 2, none⟩ = some (.int .i64 xc) := by rw [cell_of_row w' _ 2 _ 45 (0, 0) hp2]; rfl
          have c3 : w'.cell? ⟨wr.heap.size, 3, none⟩ = some (.int .i64 xa) := by rw [cell_of_row w' _ 3 _ 45 (0, 0) hp2]; rfl
          have hlt3 := lt_of_some hp2
          have k0 : ∀ o, (w'.alloc o).cell? ⟨wr.heap.size, 0, none⟩ = some (.int .i64 xo) := fun o => (((Below.refl w'.heap.size w').alloc (Nat.le_refl _) o).cell (p := ⟨wr.heap.size, 0, none⟩) hlt3).trans c0
          have k1 : ∀ o, (w'.alloc o).cell? ⟨wr.heap.size, 1, none⟩ = some (.int .i64 xl) := fun o => (((Below.refl w'.heap.size w').alloc (Nat.le_refl _) o).cell (p := ⟨wr.heap.size, 1, none⟩) hlt3).trans c1
          have k3 : ∀ o, (w'.alloc o).cell? ⟨wr.heap.size, 3, none⟩ = some (.int .i64 xa) := fun o => (((Below.refl w'.heap.size w').alloc (Nat.le_refl _) o).cell (p := ⟨wr.heap.size, 3, none⟩) hlt3).trans c3
          have hb2 := (Below.refl w'.heap.size w').alloc (Nat.le_refl _) (.cells #[.int .i64 hi, .int .i64 (xo + xl - hi), .int .i64 xc, .int .i64 (xa + (hi - xo))] 45)
          obtain ⟨v2, w2, hrun2, ho2, hb22, _, _⟩ := (ho'.below hb2).put kind22 ⟨hi, xo + xl - hi, xc, xa + (hi - xo)⟩ (by simp; omega) (Nat.le_trans HB1.out.size hb2.size) (w'.heap.size + 1) (by simp)
          simp only at hrun2
          have HRUN2 := hid hrun2
          have HO' := hid ho2
          have HB' := hid (HB1.out.trans ((hb2.mono HB1.out.size).trans hb22))
          have HL' : Hid (((acc ++ [⟨xo, lo - xo, xc, xa⟩]) ++ [⟨hi, xo + xl - hi, xc, xa + (hi - xo)⟩]) ++ wout lo hi (l.drop (i + 1)) = wout lo hi l) := by
            show _ = _
            rw [← HL.out, HD.out, List.append_assoc, List.append_assoc]
            simp only [wout, if_pos hb, if_pos hh]
            rw [show min (xo + xl) lo = lo by omega, show max xo hi = hi by omega]
          have hxh : xo < hi := by omega
          have hxh2 : hi - xo < 64 := by omega
          clear hrun ho' hb' hb1 hp1 hk' hs' hp2 hb2 hrun2 ho2 hb22 HO HL HB
          go_wp2_with (at_builtin; first | (refine step_app _ 22 rfl _ _ rfl _ _ rfl rfl _ _ HRUN.out ?_) | (refine step_app _ 22 rfl _ _ rfl _ _ rfl rfl _ _ HRUN2.out ?_))
          go_roundg (gk - 1)
          case measure => omega
          case rel => exact ⟨i + 1, _, by omega, by go_num, by rw [List.length_append, List.length_append]; simp; omega, HO', HL', HB'⟩
        · by_cases hle : xo + xl ≤ lo
          · have hle2 := hle
            have hb1 := ((Below.refl wr.heap.size wr).alloc (Nat.le_refl _) (.cells #[.int .i64 xo, .int .i64 xl, .int .i64 xc, .int .i64 xa] 45)).alloc (by simp) (.cells #[.int .i64 xo, .int .i64 (xo + xl - xo), .int .i64 xc, .int .i64 xa] 45)
            obtain ⟨v', w', hrun, ho', hb', _, _⟩ := (HO.out.below hb1).put kind22 ⟨xo, xo + xl - xo, xc, xa⟩ (by omega) (Nat.le_trans HB.out.size hb1.size) (wr.heap.size + 1 + 1) (by simp)
            simp only at hrun
            have HRUN := hid hrun
            have HO' := hid ho'
            have HB' := hid (HB.out.trans ((hb1.mono HB.out.size).trans hb'))
            have HL' : Hid ((acc ++ [⟨xo, xo + xl - xo, xc, xa⟩]) ++ wout lo hi (l.drop (i + 1)) = wout lo hi l) := by
              show _ = _
              rw [← HL.out, HD.out, List.append_assoc]
              simp only [wout, if_pos hb, if_neg hh, List.nil_append]
              rw [show min (xo + xl) lo - xo = xo + xl - xo by omega]
            clear hrun ho' hb' hb1 HO HL HB
            go_wp2_with (at_builtin; refine step_app _ 22 rfl _ _ rfl _ _ rfl rfl _ _ HRUN.out ?_)
            go_roundg (gk - 1)
            case measure => omega
            case rel => exact ⟨i + 1, _, by omega, by go_num, by rw [List.length_append]; simp; omega, HO', HL', HB'⟩
          · have hle2 : lo < xo + xl := by omega
            have hb1 := ((Below.refl wr.heap.size wr).alloc (Nat.le_refl _) (.cells #[.int .i64 xo, .int .i64 xl, .int .i64 xc, .int .i64 xa] 45)).alloc (by simp) (.cells #[.int .i64 xo, .int .i64 (lo - xo), .int .i64 xc, .int .i64 xa] 45)
            obtain ⟨v', w', hrun, ho', hb', _, _⟩ := (HO.out.below hb1).put kind22 ⟨xo, lo - xo, xc, xa⟩ (by omega) (Nat.le_trans HB.out.size hb1.size) (wr.heap.size + 1 + 1) (by simp)
            simp only at hrun
            have HRUN := hid hrun
            have HO' := hid ho'
            have HB' := hid (HB.out.trans ((hb1.mono HB.out.size).trans hb'))
            have HL' : Hid ((acc ++ [⟨xo, lo - xo, xc, xa⟩]) ++ wout lo hi (l.drop (i + 1)) = wout lo hi l) := by
              show _ = _
              rw [← HL.out, HD.out, List.append_assoc]
              simp only [wout, if_pos hb, if_neg hh, List.nil_append]
              rw [show min (xo + xl) lo - xo = lo - xo by omega]
            clear hrun ho' hb' hb1 HO HL HB
            go_wp2_with (at_builtin; refine step_app _ 22 rfl _ _ rfl _ _ rfl rfl _ _ HRUN.out ?_)
            go_roundg (gk - 1)
            case measure => omega
            case rel => exact ⟨i + 1, _, by omega, by go_num, by rw [List.length_append]; simp; omega, HO', HL', HB'⟩
      · by_cases hh : hi < xo + xl
        · by_cases hxh : xo < hi
          · have hxh2 : hi - xo < 64 := by omega
            have hq1 := heap_alloc_new wr (.cells #[.int .i64 xo, .int .i64 xl, .int .i64 xc, .int .i64 xa] 45)
            have hlt3 := lt_of_some hq1
            have k0 : ∀ o, ((wr.alloc (.cells #[.int .i64 xo, .int .i64 xl, .int .i64 xc, .int .i64 xa] 45)).alloc o).cell? ⟨wr.heap.size, 0, none⟩ = some (.int .i64 xo) := fun o => (((Below.refl _ (wr.alloc (.cells #[.int .i64 xo, .int .i64 xl, .int .i64 xc, .int .i64 xa] 45))).alloc (Nat.le_refl _) o).cell (p := ⟨wr.heap.size, 0, none⟩) hlt3).trans (by rw [cell_of_row _ _ 0 _ 45 (0, 0) hq1]; rfl)
            have k1 : ∀ o, ((wr.alloc (.cells #[.int .i64 xo, .int .i64 xl, .int .i64 xc, .int .i64 xa] 45)).alloc o).cell? ⟨wr.heap.size, 1, none⟩ = some (.int .i64 xl) := fun o => (((Below.refl _ (wr.alloc (.cells #[.int .i64 xo, .int .i64 xl, .int .i64 xc, .int .i64 xa] 45))).alloc (Nat.le_refl _) o).cell (p := ⟨wr.heap.size, 1, none⟩) hlt3).trans (by rw [cell_of_row _ _ 1 _ 45 (0, 0) hq1]; rfl)
            have k3 : ∀ o, ((wr.alloc (.cells #[.int .i64 xo, .int .i64 xl, .int .i64 xc, .int .i64 xa] 45)).alloc o).cell? ⟨wr.heap.size, 3, none⟩ = some (.int .i64 xa) := fun o => (((Below.refl _ (wr.alloc (.cells #[.int .i64 xo, .int .i64 xl, .int .i64 xc, .int .i64 xa] 45))).alloc (Nat.le_refl _) o).cell (p := ⟨wr.heap.size, 3, none⟩) hlt3).trans (by rw [cell_of_row _ _ 3 _ 45 (0, 0) hq1]; rfl)
            have hb1 := ((Below.refl wr.heap.size wr).alloc (Nat.le_refl _) (.cells #[.int .i64 xo, .int .i64 xl, .int .i64 xc, .int .i64 xa] 45)).alloc (by simp) (.cells #[.int .i64 (hi), .int .i64 (xo + xl - hi), .int .i64 xc, .int .i64 (xa + (hi - xo))] 45)
            obtain ⟨v', w', hrun, ho', hb', _, _⟩ := (HO.out.below hb1).put kind22 ⟨hi, xo + xl - hi, xc, xa + (hi - xo)⟩ (by omega) (Nat.le_trans HB.out.size hb1.size) (wr.heap.size + 1 + 1) (by simp)
            simp only at hrun
            have HRUN := hid hrun
            have HO' := hid ho'
            have HB' := hid (HB.out.trans ((hb1.mono HB.out.size).trans hb'))
            have HL' : Hid ((acc ++ [⟨hi, xo + xl - hi, xc, xa + (hi - xo)⟩]) ++ wout lo hi (l.drop (i + 1)) = wout lo hi l) := by
              show _ = _
              rw [← HL.out, HD.out, List.append_assoc]
              simp only [wout, if_neg hb, if_pos hh, List.nil_append]
              rw [show max xo hi = hi by omega]
              try rw [show xa + (xo - xo) = xa by omega]
            clear hrun ho' hb' hb1 HO HL HB hq1 hlt3
            go_wp2_with (at_builtin; refine step_app _ 22 rfl _ _ rfl _ _ rfl rfl _ _ HRUN.out ?_)
            go_roundg (gk - 1)
            case measure => omega
            case rel => exact ⟨i + 1, _, by omega, by go_num, by rw [List.length_append]; simp; omega, HO', HL', HB'⟩
          · have hxh2 : hi ≤ xo := by omega
            have hq1 := heap_alloc_new wr (.cells #[.int .i64 xo, .int .i64 xl, .int .i64 xc, .int .i64 xa] 45)
            have hlt3 := lt_of_some hq1
            have k0 : ∀ o, ((wr.alloc (.cells #[.int .i64 xo, .int .i64 xl, .int .i64 xc, .int .i64 xa] 45)).alloc o).cell? ⟨wr.heap.size, 0, none⟩ = some (.int .i64 xo) := fun o => (((Below.refl _ (wr.alloc (.cells #[.int .i64 xo, .int .i64 xl, .int .i64 xc, .int .i64 xa] 45))).alloc (Nat.le_refl _) o).cell (p := ⟨wr.heap.size, 0, none⟩) hlt3).trans (by rw [cell_of_row _ _ 0 _ 45 (0, 0) hq1]; rfl)
            have k1 : ∀ o, ((wr.alloc (.cells #[.int .i64 xo, .int .i64 xl, .int .i64 xc, .int .i64 xa] 45)).alloc o).cell? ⟨wr.heap.size, 1, none⟩ = some (.int .i64 xl) := fun o => (((Below.refl _ (wr.alloc (.cells #[.int .i64 xo, .int .i64 xl, .int .i64 xc, .int .i64 xa] 45))).alloc (Nat.le_refl _) o).cell (p := ⟨wr.heap.size, 1, none⟩) hlt3).trans (by rw [cell_of_row _ _ 1 _ 45 (0, 0) hq1]; rfl)
            have k3 : ∀ o, ((wr.alloc (.cells #[.int .i64 xo, .int .i64 xl, .int .i64 xc, .int .i64 xa] 45)).alloc o).cell? ⟨wr.heap.size, 3, none⟩ = some (.int .i64 xa) := fun o => (((Below.refl _ (wr.alloc (.cells #[.int .i64 xo, .int .i64 xl, .int .i64 xc, .int .i64 xa] 45))).alloc (Nat.le_refl _) o).cell (p := ⟨wr.heap.size, 3, none⟩) hlt3).trans (by rw [cell_of_row _ _ 3 _ 45 (0, 0) hq1]; rfl)
            have hb1 := ((Below.refl wr.heap.size wr).alloc (Nat.le_refl _) (.cells #[.int .i64 xo, .int .i64 xl, .int .i64 xc, .int .i64 xa] 45)).alloc (by simp) (.cells #[.int .i64 (xo), .int .i64 (xo + xl - xo), .int .i64 xc, .int .i64 (xa)] 45)
            obtain ⟨v', w', hrun, ho', hb', _, _⟩ := (HO.out.below hb1).put kind22 ⟨xo, xo + xl - xo, xc, xa⟩ (by omega) (Nat.le_trans HB.out.size hb1.size) (wr.heap.size + 1 + 1) (by simp)
            simp only at hrun
            have HRUN := hid hrun
            have HO' := hid ho'
            have HB' := hid (HB.out.trans ((hb1.mono HB.out.size).trans hb'))
            have HL' : Hid ((acc ++ [⟨xo, xo + xl - xo, xc, xa⟩]) ++ wout lo hi (l.drop (i + 1)) = wout lo hi l) := by
              show _ = _
              rw [← HL.out, HD.out, List.append_assoc]
              simp only [wout, if_neg hb, if_pos hh, List.nil_append]
              rw [show max xo hi = xo by omega]
              try rw [show xa + (xo - xo) = xa by omega]
            clear hrun ho' hb' hb1 HO HL HB hq1 hlt3
            go_wp2_with (at_builtin; refine step_app _ 22 rfl _ _ rfl _ _ rfl rfl _ _ HRUN.out ?_)
            go_roundg (gk - 1)
            case measure => omega
            case rel => exact ⟨i + 1, _, by omega, by go_num, by rw [List.length_append]; simp; omega, HO', HL', HB'⟩
        · have HL2 : Hid (acc ++ wout lo hi (l.drop (i + 1)) = wout lo hi l) := by
            show _ = _
            rw [← HL.out, HD.out]
            simp only [wout, if_neg hb, if_neg hh, List.nil_append]
          have hbp := (Below.refl wr.heap.size wr).alloc (Nat.le_refl _) (.cells #[.int .i64 xo, .int .i64 xl, .int .i64 xc, .int .i64 xa] 45)
          have HO2 := hid (HO.out.below hbp)
          have HB2 := hid (HB.out.trans (hbp.mono HB.out.size))
          clear hbp
          go_wp2_with fail
          go_roundg (gk - 1)
          case measure => omega
          case rel => exact ⟨i + 1, _, by omega, by go_num, by omega, HO2, HL2, HB2⟩
    · have g : ¬ (i : Int) < (n : Int) := by omega
      have HTT : Hid (acc = wout lo hi l) := by
        show _ = _
        rw [← HL.out, List.drop_of_length_le (by rw [HN.out]; omega)]
        simp [wout]
      go_wp2_with fail
      go_ret
      exact ⟨_, rfl, by rw [← HTT.out]; exact HO.out, HB.out⟩
end Go.Proofs.Ytccahhehbpahoaa
