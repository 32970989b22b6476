/- What the document's own Write of a body answers. Condition: at most a hundred thousand parts. -/
import Derived.Test.YtccahhehbpahoaaBoJ
namespace Go.Proofs.Ytccahhehbpahoaa
open Go.ChangeShapes Go.WideShapes Go.ChangeAt Go.RowKit
set_option maxRecDepth 4000
set_option linter.unusedVariables false
attribute [local go_sem ↓] Go.wp_at_zero Go.wp_at_succ
set_option maxRecDepth 20000 in
set_option maxHeartbeats 8000000 in
theorem refWrite_any {w : World} (size : Int) (a : Option Addr) (b : List Pt) (n cap : Nat) (hn : b.length = n) (hz : a = none → cap = 0) (hr : PRow w a b) (hm : n ≤ 100000) (off : Int) (hw1 : -9223372036854775808 ≤ off) (hw2 : off < 9223372036854775808) (a2 : Option Addr) (l : List Pt) (m c2 : Nat) (hn2 : l.length = m) (hr2 : PRow w a2 l) (hm2 : m ≤ 100000) :
    Calls Try.prog 13 #[.agg #[.int .i64 size, .slice a n cap], .int .i64 off, .slice a2 m c2] w fun e w' => GaveR w' e (writeB size b off l) ∧ Below w.heap.size w w' := by
  have hb1 := ((Below.refl w.heap.size w).alloc (Nat.le_refl _) (.cells #[.int .i64 size, .slice a n cap] 24)).alloc (by simp) (.cells #[.int .i64 0, .slice none 0 0] 24)
  have HT := hid (twoR_new w size (.slice a n cap))
  have HB1 := hid hb1
  have HR := hid (hr.below hb1)
  have HN := hid hn
  have HR2 := hid (hr2.below hb1)
  have HRZ := hid hr
  have HN2 := hid hn2
  have HZ := hid hz
  clear hr2 hn2 hz
  clear hb1 hr hn
  go_enter Try.func13, Try.ntmps13
  go_wp2_with fail
  generalize (w.alloc (.cells #[.int .i64 size, .slice a n cap] 24)).alloc (.cells #[.int .i64 0, .slice none 0 0] 24) = w1 at *
  obtain ⟨q, hq⟩ : ∃ q, w.heap.size = q := ⟨_, rfl⟩
  have HSZ : Hid (w.heap.size ≤ w1.heap.size) := HB1.out.size
  have HQR : Hid (w.heap.size ≤ q ∧ q < w1.heap.size ∧ q + 1 < w1.heap.size) := ⟨by omega, by have := lt_of_some HT.out.arg; omega, by have := lt_of_some HT.out.res; omega⟩
  rw [hq] at HT ⊢
  clear hq
  refine (bodyMay_any size a b n cap HN.out HR.out (by omega)).mono ?_
  rintro e w2 ⟨rfl, hb2⟩
  have HB2 := hid hb2
  have HT2 := hid (HT.out.below hb2)
  clear hb2
  cases hmay : mayB size b with
  | false =>
    have HE : Hid (writeB size b off l = (0, [], 1)) := writeB_arg (by rw [hmay]; simp)
    clear hmay
    have HST := hid (store_body size24 (z0 := .int .i64 0) (z1 := .slice none 0 0) HT2.out.res rfl rfl)
    have tok : True := trivial
    go_wp2_with (have _t := tok; refine step_store 24 rfl _ _ rfl _ HST.out ?_; clear tok)
    refine bodyPost_ret (ret_ref Try.results13 _ _ (q + 1) _ _ rfl (setRow_heap w2 (q + 1) _ _ 24 (0, 0) HT2.out.res)) rfl ⟨?_, ?_⟩
    · rw [HE.out]
      exact ⟨_, rfl, (POwn.nil 45 0 _).sl⟩
    · exact below_setRow (HB1.out.trans (HB2.out.mono HSZ.out)) (by have := HQR.out; omega) _
  | true =>
  have HMAY := hid hmay
  clear hmay
  go_wp2_with fail
  go_loopg [8, 9] m (fun gk v8 v9 wr => ∃ (i : Nat) (s : Int), i + gk = m ∧ v9 = .int .i64 (i : Int) ∧ v8 = .int .i64 s ∧ 0 ≤ s ∧ s ≤ 64 * i ∧ Hid (l.all pieceB = (l.drop i).all pieceB) ∧ Hid (lenP l = s + lenP (l.drop i)) ∧ Hid (Below w1.heap.size w1 wr))
  case atStart => exact ⟨0, 0, by omega, rfl, rfl, Int.le_refl _, by simp, hid rfl, hid (by show lenP l = 0 + lenP l; omega), HB2⟩
  case round =>
    clear HB2 HT2
    obtain ⟨i, s, hik, rfl, rfl, hs0, hs1, HA, HL, HB⟩ := hrel
    by_cases hlt : i < m
    · have g : (i : Int) < (m : Int) := by omega
      obtain ⟨bb, oo, rfl, hblt, hpl⟩ := (HR2.out.below HB.out).later (i := i) (by rw [HN2.out]; exact hlt)
      have HD := hid (drop_cons (l := l) (i := i) (by rw [HN2.out]; exact hlt))
      obtain ⟨x, hx⟩ : ∃ x, l.getD i pt0 = x := ⟨_, rfl⟩
      rw [hx] at hpl HD
      obtain ⟨xo, xl, xc, xa⟩ := x
      have HPL := hid hpl
      obtain ⟨e0, e1, e2, e3⟩ := hpl _ (Below.refl _ _)
      simp only at e0 e1 e2 e3
      clear hx hblt hpl
      go_wp2_with fail
      refine (partMay_any wr xo xl xc xa).mono ?_
      rintro e w3 ⟨rfl, hb3⟩
      obtain ⟨f0, f1, f2, f3⟩ := HPL.out _ hb3
      simp only at f0 f1 f2 f3
      have HB3 := hid (HB.out.trans (hb3.mono HB.out.size))
      have HT3 := hid (HT.out.below HB3.out)
      clear hb3 HB e0 e1 e2 e3
      cases hpc : pieceB ⟨xo, xl, xc, xa⟩ with
      | false =>
        have HE : Hid (writeB size b off l = (0, [], 1)) := writeB_arg (by rw [HA.out, HD.out, List.all_cons, hpc]; simp)
        clear hpc
        have HST := hid (store_body size24 (z0 := .int .i64 0) (z1 := .slice none 0 0) HT3.out.res rfl rfl)
        have tok : True := trivial
        go_wp2_with (have _t := tok; refine step_store 24 rfl _ _ rfl _ HST.out ?_; clear tok)
        refine bodyPost_ret (ret_ref Try.results13 _ _ (q + 1) _ _ rfl (setRow_heap w3 (q + 1) _ _ 24 (0, 0) HT3.out.res)) rfl ⟨?_, ?_⟩
        · rw [HE.out]
          exact ⟨_, rfl, (POwn.nil 45 0 _).sl⟩
        · exact below_setRow (HB1.out.trans (HB3.out.mono HSZ.out)) (by have := HQR.out; omega) _
      | true =>
        have hpp := (pieceB_iff _).1 hpc
        simp only [Piece] at hpp
        obtain ⟨p1, p2, _⟩ := hpp
        have HA' : Hid (l.all pieceB = (l.drop (i + 1)).all pieceB) := by
          show _ = _
          rw [HA.out, HD.out, List.all_cons, hpc]
          rfl
        have HL' : Hid (lenP l = s + xl + lenP (l.drop (i + 1))) := by
          show _ = _
          rw [HL.out, HD.out]
          show s + (xl + lenP (l.drop (i + 1))) = _
          omega
        clear hpc
        go_wp2_with fail
        go_roundg (gk - 1)
        case measure => omega
        case rel => exact ⟨i + 1, s + xl, by omega, by go_num, by go_num, by omega, by push_cast; omega, HA', HL', HB3⟩
    · have g : ¬ (i : Int) < (m : Int) := by omega
      have HALL : Hid (l.all pieceB = true) := by
        show _ = _
        rw [HA.out, List.drop_of_length_le (by rw [HN2.out]; omega)]
        rfl
      have HLL : Hid (lenP l = s) := by
        show _ = _
        rw [HL.out, List.drop_of_length_le (by rw [HN2.out]; omega)]
        show s + 0 = s
        omega
      have HT4 := hid (HT.out.below HB.out)
      have HB4 := HB
      have hl0 := lenP_nonneg HALL.out
      have hs9 : s ≤ 6400000 := by omega
      rw [HN2.out, HLL.out] at hl0
      clear HA HL HB hs1
      by_cases ho0 : 0 ≤ off
      case neg =>
        have HE : Hid (writeB size b off l = (0, [], 9)) := writeB_size ⟨HMAY.out, HALL.out⟩ (by omega)
        have HST := hid (store_body size24 (z0 := .int .i64 0) (z1 := .slice none 0 0) HT4.out.res rfl rfl)
        have tok : True := trivial
        go_wp2_with (have _t := tok; refine step_store 24 rfl _ _ rfl _ HST.out ?_; clear tok)
        refine bodyPost_ret (ret_ref Try.results13 _ _ (q + 1) _ _ rfl (setRow_heap wr (q + 1) _ _ 24 (0, 0) HT4.out.res)) rfl ⟨?_, ?_⟩
        · rw [HE.out]
          exact ⟨_, rfl, (POwn.nil 45 0 _).sl⟩
        · exact below_setRow (HB1.out.trans (HB4.out.mono HSZ.out)) (by have := HQR.out; omega) _
      by_cases ho1 : off ≤ 1099511627776 - s
      case neg =>
        have HE : Hid (writeB size b off l = (0, [], 9)) := writeB_size ⟨HMAY.out, HALL.out⟩ (by rw [HLL.out]; omega)
        have HST := hid (store_body size24 (z0 := .int .i64 0) (z1 := .slice none 0 0) HT4.out.res rfl rfl)
        have tok : True := trivial
        go_wp2_with (have _t := tok; refine step_store 24 rfl _ _ rfl _ HST.out ?_; clear tok)
        refine bodyPost_ret (ret_ref Try.results13 _ _ (q + 1) _ _ rfl (setRow_heap wr (q + 1) _ _ 24 (0, 0) HT4.out.res)) rfl ⟨?_, ?_⟩
        · rw [HE.out]
          exact ⟨_, rfl, (POwn.nil 45 0 _).sl⟩
        · exact below_setRow (HB1.out.trans (HB4.out.mono HSZ.out)) (by have := HQR.out; omega) _
      by_cases hm0 : m = 0
      · subst hm0
        obtain rfl : l = [] := List.length_eq_zero_iff.1 HN2.out
        obtain rfl : 0 = s := HLL.out
        have HE : Hid (writeB size b off [] = (size, b, 0)) := writeB_nil HMAY.out ⟨ho0, by omega⟩
        obtain ⟨c0, c1⟩ := HT4.out.cells
        have HST := hid (store_body size24 (z0 := .int .i64 size) (z1 := .slice a n cap) HT4.out.res rfl rfl)
        have tok : True := trivial
        go_wp2_with (have _t := tok; refine step_store 24 rfl _ _ rfl _ HST.out ?_; clear tok)
        refine bodyPost_ret (ret_ref Try.results13 _ _ (q + 1) _ _ rfl (setRow_heap wr (q + 1) _ _ 24 (0, 0) HT4.out.res)) rfl ⟨?_, ?_⟩
        · rw [HE.out]
          have hbe := below_setRow (HB1.out.trans (HB4.out.mono HSZ.out)) (g := q + 1) (by have := HQR.out; omega) #[.int .i64 size, .slice a n cap]
          exact ⟨_, rfl, a, cap, by rw [HN.out], HRZ.out.below hbe, HZ.out⟩
        · exact below_setRow (HB1.out.trans (HB4.out.mono HSZ.out)) (by have := HQR.out; omega) _
      · have hlne : l ≠ [] := by intro e; have := HN2.out; rw [e] at this; simp at this; omega
        obtain ⟨to, hto⟩ : ∃ to, off + s = to := ⟨_, rfl⟩
        have hto1 : to ≤ 1099511627776 := by omega
        have HE : Hid (writeB size b off l = (max size to, ahead off b ++ (lay off l ++ behind to b), 0)) := by
          have h := writeB_some (size := size) (b := b) ⟨HMAY.out, HALL.out⟩ (off := off) ⟨ho0, by rw [HLL.out]; exact ho1⟩ hlne
          rw [HLL.out, hto] at h
          exact h
        obtain ⟨hsz0, hsz1, hok⟩ := mayB_iff.1 HMAY.out
        have HBD := hid (bd_of_ok hok (Int.le_refl _) hsz1)
        have HLOW : Hid (lows off (wout off to b) = ahead off b) := wout_low hok (by omega)
        have HHIG : Hid (highs off (wout off to b) = behind to b) := wout_high hok (by omega)
        have hRl := wout_len off to b
        rw [HN.out] at hRl
        have hmz2 : ((m : Int) == 0) = false := by simp; omega
        have c1 := HT4.out.cells.2
        clear hok hlne
        go_wp2_with fail
        refine (wout_any a b n cap HN.out (HR.out.below HB4.out) hm HBD.out off to ho0 (by omega) (by omega) (by omega)).mono ?_
        rintro e w5 ⟨v5, rfl, ho5, hb5⟩
        obtain ⟨ar, cr, hv5, _, _, hre, _⟩ := ho5.row
        obtain ⟨RS, hRSe⟩ : ∃ RS, wout off to b = RS := ⟨_, rfl⟩
        rw [hRSe] at hv5 hre HLOW HHIG hRl
        obtain ⟨R, hRR⟩ : ∃ R, RS.length = R := ⟨_, rfl⟩
        rw [hRR] at hv5 hRl
        subst hv5
        have HRS := hid hRR
        have HRE := hid hre
        have HB5 := hid (HB4.out.trans (hb5.mono HB4.out.size))
        have HT5 := hid (HT4.out.below hb5)
        clear ho5 hb5 hre hRSe hRR HT4 HB4 c1
        go_wp2_with fail
        go_loopg [11, 12] R (fun gk v11 v12 wr => ∃ (i : Nat) (acc : List Pt), i + gk = R ∧ v12 = .int .i64 (i : Int) ∧ acc.length ≤ i ∧ Hid (POwn 45 w5.heap.size wr v11 acc) ∧ Hid (acc ++ lows off (RS.drop i) = lows off RS) ∧ Hid (Below w5.heap.size w5 wr))
        case atStart => exact ⟨0, [], by omega, rfl, Nat.le_refl _, hid (POwn.nil _ _ _), hid rfl, hid (Below.refl _ _)⟩
        case round =>
          obtain ⟨i, acc, hik, rfl, hac, HO, HL, HB⟩ := hrel
          by_cases hlt : i < R
          · have g : (i : Int) < (R : Int) := by omega
            have HRE0 := HRE
            obtain ⟨bb, oo, hare, hblt, hpa⟩ := (HRE.out.below HB.out).part (i := i) (by rw [HRS.out]; exact hlt)
            have HD := hid (drop_cons (l := RS) (i := i) (by rw [HRS.out]; exact hlt))
            obtain ⟨x, hx⟩ : ∃ x, RS.getD i pt0 = x := ⟨_, rfl⟩
            rw [hx] at hpa HD
            obtain ⟨xo, xl, xc, xa⟩ := x
            obtain ⟨e0, e1, e2, e3⟩ := hpa
            simp only at e0 e1 e2 e3
            subst hare
            clear hx hblt
            by_cases hb : xo < off
            · obtain ⟨v', w', hrun, ho', hb', _, _⟩ := HO.out.put kind22 ⟨xo, xl, xc, xa⟩ (by omega) HB.out.size wr.heap.size rfl
              simp only at hrun
              have HRUN := hid hrun
              have HO' := hid ho'
              have HB' := hid (HB.out.trans hb')
              have HL' : Hid ((acc ++ [(⟨xo, xl, xc, xa⟩ : Pt)]) ++ lows off (RS.drop (i + 1)) = lows off RS) := by
                show _ = _
                rw [← HL.out, HD.out, lows_pos hb, List.append_assoc]
                rfl
              clear hrun ho' hb' HO HL HB
              go_wp2_with (at_builtin; refine step_app _ 22 rfl _ _ rfl _ _ rfl rfl _ _ HRUN.out ?_)
              go_roundg (gk - 1)
              case measure => omega
              case rel => exact ⟨i + 1, _, by omega, by go_num, by rw [List.length_append]; simp; omega, HO', HL', HB'⟩
            · have HLO : Hid (POwn 45 w5.heap.size wr u11 (lows off RS)) := by
                show POwn _ _ _ _ _
                have h := HL.out
                rw [HD.out, lows_neg hb, List.append_nil] at h
                rw [← h]
                exact HO.out
              clear HO HL HD hac
              obtain ⟨nL, hnL⟩ : ∃ k, (lows off RS).length = k := ⟨_, rfl⟩
              have hnL2 := lows_len off RS
              rw [hnL, HRS.out] at hnL2
              have HNL := hid hnL
              clear hnL
              go_wp2_with fail
              go_loopg [11, 13, 14] m (fun gk v11 v13 v14 wr => ∃ (i : Nat) (o : Int) (done : List Pt), i + gk = m ∧ v14 = .int .i64 (i : Int) ∧ v13 = .int .i64 o ∧ done.length = i ∧ 0 ≤ o ∧ o ≤ 1099511627776 + 64 * i ∧ Hid (POwn 45 w5.heap.size wr v11 (lows off RS ++ done)) ∧ Hid (done ++ lay o (l.drop i) = lay off l) ∧ Hid (Below w5.heap.size w5 wr))
              case atStart => exact ⟨0, off, [], by omega, rfl, rfl, rfl, ho0, by omega, hid (by rw [List.append_nil]; exact HLO.out), hid rfl, HB⟩
              case round =>
                clear HLO HB
                obtain ⟨i, o, done, hik, rfl, rfl, hdn, hoo, hoo1, HO, HL, HB⟩ := hrel
                by_cases hlt : i < m
                · have g : (i : Int) < (m : Int) := by omega
                  obtain ⟨bb, oo, rfl, hblt, hpa⟩ := (HR2.out.below (HB5.out.trans (HB.out.mono HB5.out.size))).part (i := i) (by rw [HN2.out]; exact hlt)
                  have HD := hid (drop_cons (l := l) (i := i) (by rw [HN2.out]; exact hlt))
                  have hpc := all_get HALL.out (i := i) (by rw [HN2.out]; exact hlt)
                  obtain ⟨x, hx⟩ : ∃ x, l.getD i pt0 = x := ⟨_, rfl⟩
                  rw [hx] at hpa HD hpc
                  obtain ⟨xo, xl, xc, xa⟩ := x
                  obtain ⟨e0, e1, e2, e3⟩ := hpa
                  simp only at e0 e1 e2 e3
                  obtain ⟨p1, p2, _⟩ := hpc
                  simp only at p1 p2
                  clear hx hblt
                  have hb7 := (Below.refl wr.heap.size wr).alloc (Nat.le_refl _) (.cells #[.int .i64 o, .int .i64 xl, .int .i64 xc, .int .i64 xa] 45)
                  obtain ⟨v', w', hrun, ho', hb', _, _⟩ := (HO.out.below hb7).put kind22 ⟨o, xl, xc, xa⟩ (by rw [List.length_append, HNL.out, hdn]; omega) (Nat.le_trans HB.out.size hb7.size) (wr.heap.size + 1) (by simp)
                  simp only at hrun
                  have HRUN := hid hrun
                  have HO' : Hid (POwn 45 w5.heap.size w' v' (lows off RS ++ (done ++ [⟨o, xl, xc, xa⟩]))) := by show POwn _ _ _ _ _; rw [← List.append_assoc]; exact ho'
                  have HB' := hid (HB.out.trans ((hb7.mono HB.out.size).trans hb'))
                  have HL' : Hid ((done ++ [(⟨o, xl, xc, xa⟩ : Pt)]) ++ lay (o + xl) (l.drop (i + 1)) = lay off l) := by
                    show _ = _
                    rw [← HL.out, HD.out, List.append_assoc]
                    rfl
                  clear hrun ho' hb' hb7 HO HL HB
                  go_wp2_with (at_builtin; refine step_app _ 22 rfl _ _ rfl _ _ rfl rfl _ _ HRUN.out ?_)
                  go_roundg (gk - 1)
                  case measure => omega
                  case rel => exact ⟨i + 1, o + xl, _, by omega, by go_num, rfl, by simp [hdn], by omega, by push_cast; omega, HO', HL', HB'⟩
                · have g : ¬ (i : Int) < (m : Int) := by omega
                  have HLD : Hid (done = lay off l) := by
                    show _ = _
                    rw [← HL.out, List.drop_of_length_le (by rw [HN2.out]; omega)]
                    simp [lay]
                  have HO4 : Hid (POwn 45 w5.heap.size wr u11 (lows off RS ++ lay off l)) := by show POwn _ _ _ _ _; rw [← HLD.out]; exact HO.out
                  clear HO HLD HL
                  go_wp2_with fail
                  go_loopg [11, 16] R (fun gk v11 v16 wr => ∃ (i : Nat) (acc : List Pt), i + gk = R ∧ v16 = .int .i64 (i : Int) ∧ acc.length ≤ nL + m + i ∧ Hid (POwn 45 w5.heap.size wr v11 acc) ∧ Hid (acc ++ highs off (RS.drop i) = lows off RS ++ (lay off l ++ highs off RS)) ∧ Hid (Below w5.heap.size w5 wr))
                  case atStart => exact ⟨0, _, by omega, rfl, by rw [List.length_append, lay_len, HNL.out, HN2.out]; omega, HO4, hid (by rw [List.append_assoc]; rfl), HB⟩
                  case round =>
                    clear HO4 HB
                    obtain ⟨i, acc, hik, rfl, hac, HO, HL, HB⟩ := hrel
                    by_cases hlt : i < R
                    · have g : (i : Int) < (R : Int) := by omega
                      obtain ⟨b4, o4, hare4, hblt, hpa⟩ := (HRE.out.below HB.out).part (i := i) (by rw [HRS.out]; exact hlt)
                      first
                        | subst hare4
                        | (simp only [Option.some.injEq, Addr.mk.injEq, and_true] at hare4; obtain ⟨rfl, rfl⟩ := hare4)
                      have HD := hid (drop_cons (l := RS) (i := i) (by rw [HRS.out]; exact hlt))
                      obtain ⟨x, hx⟩ : ∃ x, RS.getD i pt0 = x := ⟨_, rfl⟩
                      rw [hx] at hpa HD
                      obtain ⟨xo, xl, xc, xa⟩ := x
                      obtain ⟨e0, e1, e2, e3⟩ := hpa
                      simp only at e0 e1 e2 e3
                      clear hx hblt
                      by_cases hb : off ≤ xo
                      · obtain ⟨v', w', hrun, ho', hb', _, _⟩ := HO.out.put kind22 ⟨xo, xl, xc, xa⟩ (by omega) HB.out.size wr.heap.size rfl
                        simp only at hrun
                        have HRUN := hid hrun
                        have HO' := hid ho'
                        have HB' := hid (HB.out.trans hb')
                        have HL' : Hid ((acc ++ [(⟨xo, xl, xc, xa⟩ : Pt)]) ++ highs off (RS.drop (i + 1)) = lows off RS ++ (lay off l ++ highs off RS)) := by
                          show _ = _
                          rw [← HL.out, HD.out, highs_pos hb, List.append_assoc]
                          rfl
                        clear hrun ho' hb' HO HL HB
                        go_wp2_with (at_builtin; refine step_app _ 22 rfl _ _ rfl _ _ rfl rfl _ _ HRUN.out ?_)
                        go_roundg (gk - 1)
                        case measure => omega
                        case rel => exact ⟨i + 1, _, by omega, by go_num, by rw [List.length_append]; simp; omega, HO', HL', HB'⟩
                      · have HL' : Hid (acc ++ highs off (RS.drop (i + 1)) = lows off RS ++ (lay off l ++ highs off RS)) := by
                          show _ = _
                          rw [← HL.out, HD.out, highs_neg hb]
                        clear HL
                        go_wp2_with fail
                        go_roundg (gk - 1)
                        case measure => omega
                        case rel => exact ⟨i + 1, _, by omega, by go_num, by omega, HO, HL', HB⟩
                    · have g : ¬ (i : Int) < (R : Int) := by omega
                      have HTT : Hid (acc = ahead off b ++ (lay off l ++ behind to b)) := by
                        show _ = _
                        have h := HL.out
                        rw [List.drop_of_length_le (by rw [HRS.out]; omega), show highs off [] = [] from rfl, List.append_nil, HLOW.out, HHIG.out] at h
                        exact h
                      have HT9 := hid (HT5.out.below HB.out)
                      have ho9 := HO.out
                      rw [HTT.out] at ho9
                      obtain ⟨a9, c9, hv9, _⟩ := ho9.row
                      obtain ⟨N9, hN9⟩ : ∃ N9, (ahead off b ++ (lay off l ++ behind to b)).length = N9 := ⟨_, rfl⟩
                      rw [hN9] at hv9
                      subst hv9
                      have HO9 := hid ho9
                      have e80 := HT9.out.cells.1
                      clear ho9 hN9 HO HL HTT
                      by_cases hmx : size < to
                      · have HMX : Hid (max size to = to) := by show _ = _; omega
                        have HST := hid (store_body size24 (z0 := .int .i64 to) (z1 := .slice a9 N9 c9) HT9.out.res rfl rfl)
                        have tok : True := trivial
                        go_wp2_with (have _t := tok; refine step_store 24 rfl _ _ rfl _ HST.out ?_; clear tok)
                        refine bodyPost_ret (ret_ref Try.results13 _ _ (q + 1) _ _ rfl (setRow_heap _ (q + 1) _ _ 24 (0, 0) HT9.out.res)) rfl ⟨?_, ?_⟩
                        · rw [HE.out, HMX.out]
                          exact ⟨_, rfl, PSl.setRow HO9.out (by have := HQR.out; have := HB5.out.size; omega) _⟩
                        · exact below_setRow (HB1.out.trans ((HB5.out.trans (HB.out.mono HB5.out.size)).mono HSZ.out)) (by have := HQR.out; omega) _
                      · have HMX : Hid (max size to = size) := by show _ = _; omega
                        have hmx2 : to ≤ size := by omega
                        have HST := hid (store_body size24 (z0 := .int .i64 size) (z1 := .slice a9 N9 c9) HT9.out.res rfl rfl)
                        have tok : True := trivial
                        go_wp2_with (have _t := tok; refine step_store 24 rfl _ _ rfl _ HST.out ?_; clear tok)
                        refine bodyPost_ret (ret_ref Try.results13 _ _ (q + 1) _ _ rfl (setRow_heap _ (q + 1) _ _ 24 (0, 0) HT9.out.res)) rfl ⟨?_, ?_⟩
                        · rw [HE.out, HMX.out]
                          exact ⟨_, rfl, PSl.setRow HO9.out (by have := HQR.out; have := HB5.out.size; omega) _⟩
                        · exact below_setRow (HB1.out.trans ((HB5.out.trans (HB.out.mono HB5.out.size)).mono HSZ.out)) (by have := HQR.out; omega) _
          · have g : ¬ (i : Int) < (R : Int) := by omega
            have HLO : Hid (POwn 45 w5.heap.size wr u11 (lows off RS)) := by
              show POwn _ _ _ _ _
              have h := HL.out
              rw [List.drop_of_length_le (by rw [HRS.out]; omega), show lows off [] = [] from rfl, List.append_nil] at h
              rw [← h]
              exact HO.out
            clear HO HL hac
            obtain ⟨nL, hnL⟩ : ∃ k, (lows off RS).length = k := ⟨_, rfl⟩
            have hnL2 := lows_len off RS
            rw [hnL, HRS.out] at hnL2
            have HNL := hid hnL
            clear hnL
            go_wp2_with fail
            go_loopg [11, 13, 14] m (fun gk v11 v13 v14 wr => ∃ (i : Nat) (o : Int) (done : List Pt), i + gk = m ∧ v14 = .int .i64 (i : Int) ∧ v13 = .int .i64 o ∧ done.length = i ∧ 0 ≤ o ∧ o ≤ 1099511627776 + 64 * i ∧ Hid (POwn 45 w5.heap.size wr v11 (lows off RS ++ done)) ∧ Hid (done ++ lay o (l.drop i) = lay off l) ∧ Hid (Below w5.heap.size w5 wr))
            case atStart => exact ⟨0, off, [], by omega, rfl, rfl, rfl, ho0, by omega, hid (by rw [List.append_nil]; exact HLO.out), hid rfl, HB⟩
            case round =>
              clear HLO HB
              obtain ⟨i, o, done, hik, rfl, rfl, hdn, hoo, hoo1, HO, HL, HB⟩ := hrel
              by_cases hlt : i < m
              · have g : (i : Int) < (m : Int) := by omega
                obtain ⟨bb, oo, rfl, hblt, hpa⟩ := (HR2.out.below (HB5.out.trans (HB.out.mono HB5.out.size))).part (i := i) (by rw [HN2.out]; exact hlt)
                have HD := hid (drop_cons (l := l) (i := i) (by rw [HN2.out]; exact hlt))
                have hpc := all_get HALL.out (i := i) (by rw [HN2.out]; exact hlt)
                obtain ⟨x, hx⟩ : ∃ x, l.getD i pt0 = x := ⟨_, rfl⟩
                rw [hx] at hpa HD hpc
                obtain ⟨xo, xl, xc, xa⟩ := x
                obtain ⟨e0, e1, e2, e3⟩ := hpa
                simp only at e0 e1 e2 e3
                obtain ⟨p1, p2, _⟩ := hpc
                simp only at p1 p2
                clear hx hblt
                have hb7 := (Below.refl wr.heap.size wr).alloc (Nat.le_refl _) (.cells #[.int .i64 o, .int .i64 xl, .int .i64 xc, .int .i64 xa] 45)
                obtain ⟨v', w', hrun, ho', hb', _, _⟩ := (HO.out.below hb7).put kind22 ⟨o, xl, xc, xa⟩ (by rw [List.length_append, HNL.out, hdn]; omega) (Nat.le_trans HB.out.size hb7.size) (wr.heap.size + 1) (by simp)
                simp only at hrun
                have HRUN := hid hrun
                have HO' : Hid (POwn 45 w5.heap.size w' v' (lows off RS ++ (done ++ [⟨o, xl, xc, xa⟩]))) := by show POwn _ _ _ _ _; rw [← List.append_assoc]; exact ho'
                have HB' := hid (HB.out.trans ((hb7.mono HB.out.size).trans hb'))
                have HL' : Hid ((done ++ [(⟨o, xl, xc, xa⟩ : Pt)]) ++ lay (o + xl) (l.drop (i + 1)) = lay off l) := by
                  show _ = _
                  rw [← HL.out, HD.out, List.append_assoc]
                  rfl
                clear hrun ho' hb' hb7 HO HL HB
                go_wp2_with (at_builtin; refine step_app _ 22 rfl _ _ rfl _ _ rfl rfl _ _ HRUN.out ?_)
                go_roundg (gk - 1)
                case measure => omega
                case rel => exact ⟨i + 1, o + xl, _, by omega, by go_num, rfl, by simp [hdn], by omega, by push_cast; omega, HO', HL', HB'⟩
              · have g : ¬ (i : Int) < (m : Int) := by omega
                have HLD : Hid (done = lay off l) := by
                  show _ = _
                  rw [← HL.out, List.drop_of_length_le (by rw [HN2.out]; omega)]
                  simp [lay]
                have HO4 : Hid (POwn 45 w5.heap.size wr u11 (lows off RS ++ lay off l)) := by show POwn _ _ _ _ _; rw [← HLD.out]; exact HO.out
                clear HO HLD HL
                go_wp2_with fail
                go_loopg [11, 16] R (fun gk v11 v16 wr => ∃ (i : Nat) (acc : List Pt), i + gk = R ∧ v16 = .int .i64 (i : Int) ∧ acc.length ≤ nL + m + i ∧ Hid (POwn 45 w5.heap.size wr v11 acc) ∧ Hid (acc ++ highs off (RS.drop i) = lows off RS ++ (lay off l ++ highs off RS)) ∧ Hid (Below w5.heap.size w5 wr))
                case atStart => exact ⟨0, _, by omega, rfl, by rw [List.length_append, lay_len, HNL.out, HN2.out]; omega, HO4, hid (by rw [List.append_assoc]; rfl), HB⟩
                case round =>
                  clear HO4 HB
                  obtain ⟨i, acc, hik, rfl, hac, HO, HL, HB⟩ := hrel
                  by_cases hlt : i < R
                  · have g : (i : Int) < (R : Int) := by omega
                    obtain ⟨b4, o4, hare4, hblt, hpa⟩ := (HRE.out.below HB.out).part (i := i) (by rw [HRS.out]; exact hlt)
                    first
                      | subst hare4
                      | (simp only [Option.some.injEq, Addr.mk.injEq, and_true] at hare4; obtain ⟨rfl, rfl⟩ := hare4)
                    have HD := hid (drop_cons (l := RS) (i := i) (by rw [HRS.out]; exact hlt))
                    obtain ⟨x, hx⟩ : ∃ x, RS.getD i pt0 = x := ⟨_, rfl⟩
                    rw [hx] at hpa HD
                    obtain ⟨xo, xl, xc, xa⟩ := x
                    obtain ⟨e0, e1, e2, e3⟩ := hpa
                    simp only at e0 e1 e2 e3
                    clear hx hblt
                    by_cases hb : off ≤ xo
                    · obtain ⟨v', w', hrun, ho', hb', _, _⟩ := HO.out.put kind22 ⟨xo, xl, xc, xa⟩ (by omega) HB.out.size wr.heap.size rfl
                      simp only at hrun
                      have HRUN := hid hrun
                      have HO' := hid ho'
                      have HB' := hid (HB.out.trans hb')
                      have HL' : Hid ((acc ++ [(⟨xo, xl, xc, xa⟩ : Pt)]) ++ highs off (RS.drop (i + 1)) = lows off RS ++ (lay off l ++ highs off RS)) := by
                        show _ = _
                        rw [← HL.out, HD.out, highs_pos hb, List.append_assoc]
                        rfl
                      clear hrun ho' hb' HO HL HB
                      go_wp2_with (at_builtin; refine step_app _ 22 rfl _ _ rfl _ _ rfl rfl _ _ HRUN.out ?_)
                      go_roundg (gk - 1)
                      case measure => omega
                      case rel => exact ⟨i + 1, _, by omega, by go_num, by rw [List.length_append]; simp; omega, HO', HL', HB'⟩
                    · have HL' : Hid (acc ++ highs off (RS.drop (i + 1)) = lows off RS ++ (lay off l ++ highs off RS)) := by
                        show _ = _
                        rw [← HL.out, HD.out, highs_neg hb]
                      clear HL
                      go_wp2_with fail
                      go_roundg (gk - 1)
                      case measure => omega
                      case rel => exact ⟨i + 1, _, by omega, by go_num, by omega, HO, HL', HB⟩
                  · have g : ¬ (i : Int) < (R : Int) := by omega
                    have HTT : Hid (acc = ahead off b ++ (lay off l ++ behind to b)) := by
                      show _ = _
                      have h := HL.out
                      rw [List.drop_of_length_le (by rw [HRS.out]; omega), show highs off [] = [] from rfl, List.append_nil, HLOW.out, HHIG.out] at h
                      exact h
                    have HT9 := hid (HT5.out.below HB.out)
                    have ho9 := HO.out
                    rw [HTT.out] at ho9
                    obtain ⟨a9, c9, hv9, _⟩ := ho9.row
                    obtain ⟨N9, hN9⟩ : ∃ N9, (ahead off b ++ (lay off l ++ behind to b)).length = N9 := ⟨_, rfl⟩
                    rw [hN9] at hv9
                    subst hv9
                    have HO9 := hid ho9
                    have e80 := HT9.out.cells.1
                    clear ho9 hN9 HO HL HTT
                    by_cases hmx : size < to
                    · have HMX : Hid (max size to = to) := by show _ = _; omega
                      have HST := hid (store_body size24 (z0 := .int .i64 to) (z1 := .slice a9 N9 c9) HT9.out.res rfl rfl)
                      have tok : True := trivial
                      go_wp2_with (have _t := tok; refine step_store 24 rfl _ _ rfl _ HST.out ?_; clear tok)
                      refine bodyPost_ret (ret_ref Try.results13 _ _ (q + 1) _ _ rfl (setRow_heap _ (q + 1) _ _ 24 (0, 0) HT9.out.res)) rfl ⟨?_, ?_⟩
                      · rw [HE.out, HMX.out]
                        exact ⟨_, rfl, PSl.setRow HO9.out (by have := HQR.out; have := HB5.out.size; omega) _⟩
                      · exact below_setRow (HB1.out.trans ((HB5.out.trans (HB.out.mono HB5.out.size)).mono HSZ.out)) (by have := HQR.out; omega) _
                    · have HMX : Hid (max size to = size) := by show _ = _; omega
                      have hmx2 : to ≤ size := by omega
                      have HST := hid (store_body size24 (z0 := .int .i64 size) (z1 := .slice a9 N9 c9) HT9.out.res rfl rfl)
                      have tok : True := trivial
                      go_wp2_with (have _t := tok; refine step_store 24 rfl _ _ rfl _ HST.out ?_; clear tok)
                      refine bodyPost_ret (ret_ref Try.results13 _ _ (q + 1) _ _ rfl (setRow_heap _ (q + 1) _ _ 24 (0, 0) HT9.out.res)) rfl ⟨?_, ?_⟩
                      · rw [HE.out, HMX.out]
                        exact ⟨_, rfl, PSl.setRow HO9.out (by have := HQR.out; have := HB5.out.size; omega) _⟩
                      · exact below_setRow (HB1.out.trans ((HB5.out.trans (HB.out.mono HB5.out.size)).mono HSZ.out)) (by have := HQR.out; omega) _
end Go.Proofs.Ytccahhehbpahoaa
