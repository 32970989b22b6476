/- FrameTurns: any bytes, behind any last: their frame; read, whatever stands behind, it is they. No condition. -/
import Derived.Test.YthfpjpknmaebbaaPair
namespace Go.Proofs.Ythfpjpknmaebbaa
open Go.ChangeShapes Go.WideShapes Go.ChangeAt Go.RowKit Pen
open Crc (four nx run)
set_option maxRecDepth 4000
set_option maxRecDepth 40000 in
set_option maxHeartbeats 8000000 in
theorem frameTurns_walk (x y : Int) (a : Option Addr) (l : List Nat) (n cap : Nat) (a2 : Option Addr) (l2 : List Nat) (n2 cap2 : Nat) (w : World) (hn : l.length = n) (hr : Row w a l) (hn2 : l2.length = n2) (hr2 : Row w a2 l2) :
    Calls Try.prog 3 #[.agg #[.int .i64 x, .int .i64 y], .slice a n cap, .slice a2 n2 cap2] w fun e w' => e = .returned (.bool true) ∧ Below w.heap.size w w' := by
  have HR := hid hr
  have HN := hid hn
  have HR2 := hid hr2
  have HN2 := hid hn2
  clear hr hn hr2 hn2
  obtain ⟨v0, hv0⟩ : ∃ v0, v0 = w.alloc (.cells #[.int .i64 x, .int .i64 y] 22) := ⟨_, rfl⟩
  have hb0 : Below w.heap.size w v0 := by rw [hv0]; exact (Below.refl _ _).alloc (Nat.le_refl _) _
  have hq0 : v0.heap[w.heap.size]? = some (.cells #[.int .i64 x, .int .i64 y] 22 (0, 0)) := by rw [hv0]; exact heap_alloc_new _ _
  have HV0 := hid hv0
  have HB0 := hid hb0
  have HQ0 := hid hq0
  clear hv0 hb0 hq0
  by_cases z1 : 40000 < n
  · have hiz1 : (40000 : Int) < (n : Int) := by omega
    go_enter Try.func3, Try.ntmps3
    go_wp2_with fail
    rw [← HV0.out]
    refine (awake_any v0).mono ?_
    rintro e w1 ⟨rfl, hb1⟩
    have HB1 := hid (HB0.out.trans (hb1.mono HB0.out.size))
    clear hb1
    go_wp2_with fail
    go_ret
    exact ⟨rfl, HB1.out⟩
  have hiz1 : ¬ (40000 : Int) < (n : Int) := by omega
  by_cases z2 : 100 < n2
  · have hiz2 : (100 : Int) < (n2 : Int) := by omega
    go_enter Try.func3, Try.ntmps3
    go_wp2_with fail
    rw [← HV0.out]
    refine (awake_any v0).mono ?_
    rintro e w1 ⟨rfl, hb1⟩
    have HB1 := hid (HB0.out.trans (hb1.mono HB0.out.size))
    clear hb1
    go_wp2_with fail
    go_ret
    exact ⟨rfl, HB1.out⟩
  have hiz2 : ¬ (100 : Int) < (n2 : Int) := by omega
  go_enter Try.func3, Try.ntmps3
  go_wp2_with fail
  rw [← HV0.out]
  refine (awake_any v0).mono ?_
  rintro e w1 ⟨rfl, hb1⟩
  have HB1 := hid (HB0.out.trans (hb1.mono HB0.out.size))
  have hq1 := (hb1.block w.heap.size (Array.getElem?_eq_some_iff.1 HQ0.out).1).trans HQ0.out
  have c0 : w1.cell? ⟨w.heap.size, 0, none⟩ = some (.int .i64 x) := by rw [cell_of_row w1 _ 0 _ 22 (0, 0) hq1]; rfl
  have c1 : w1.cell? ⟨w.heap.size, 1, none⟩ = some (.int .i64 y) := by rw [cell_of_row w1 _ 1 _ 22 (0, 0) hq1]; rfl
  clear hb1 hq1 HV0 HB0 HQ0
  obtain ⟨L, hL, hLl⟩ : ∃ L : Nat, x % 4294967296 = (L : Int) ∧ L < 4294967296 := ⟨(x % 4294967296).toNat, by omega, by omega⟩
  have HLl := hid hLl
  go_wp2_with fail
  go_quiet (fail)
  have HBQ : Hid (Below w.heap.size w (w1.drewN nq)) := ⟨HB1.out.os, HB1.out.tape, HB1.out.output, HB1.out.size, HB1.out.block⟩
  clear c0 c1 HB1
  generalize w1.drewN nq = v at *
  rw [hL]
  clear hL hLl
  by_cases y1 : n < 1
  · have hiy1 : (n : Int) < 1 := by omega
    have HK := hid (size_any (n : Int) v)
    rw [siz_no (by omega)] at HK
    go_wp2_with fail
    refine (make_no L n cap y a v (by omega)).mono ?_
    rintro e v1 ⟨rfl, rfl⟩
    go_wp2_with fail
    refine HK.out.mono ?_
    rintro e v2 ⟨rfl, rfl⟩
    go_wp2_with fail
    go_ret
    exact ⟨rfl, HBQ.out⟩
  have hiy1 : ¬ (n : Int) < 1 := by omega
  by_cases y2 : 16384 < n
  · have hiy2 : (16384 : Int) < (n : Int) := by omega
    have HK := hid (size_any (n : Int) v)
    rw [siz_no (by omega)] at HK
    go_wp2_with fail
    refine (make_no L n cap y a v (by omega)).mono ?_
    rintro e v1 ⟨rfl, rfl⟩
    go_wp2_with fail
    refine HK.out.mono ?_
    rintro e v2 ⟨rfl, rfl⟩
    go_wp2_with fail
    go_ret
    refine ⟨?_, HBQ.out⟩
    show Ending.returned (Value.bool (!decide ((n : Int) ≤ 16384))) = _
    rw [decide_eq_false (by omega)]
    rfl
  have hiy2 : ¬ (16384 : Int) < (n : Int) := by omega
  by_cases y3 : y < 0
  · have hiy3 : y < 0 := by omega
    have HK := hid (size_any (n : Int) v)
    rw [siz_yes (by omega)] at HK
    go_wp2_with fail
    refine (make_no L n cap y a v (by omega)).mono ?_
    rintro e v1 ⟨rfl, rfl⟩
    go_wp2_with fail
    refine HK.out.mono ?_
    rintro e v2 ⟨rfl, rfl⟩
    have hs1 : (0 : Int) < (n : Int) + 16 := by omega
    have hs2 : (1 : Int) ≤ (n : Int) := by omega
    have hs3 : (n : Int) ≤ 16384 := by omega
    go_wp2_with fail
    go_ret
    exact ⟨rfl, HBQ.out⟩
  have hiy3 : ¬ y < 0 := by omega
  by_cases y4 : 2147483648 ≤ y
  · have hiy4 : 2147483648 ≤ y := by omega
    have HK := hid (size_any (n : Int) v)
    rw [siz_yes (by omega)] at HK
    go_wp2_with fail
    refine (make_no L n cap y a v (by omega)).mono ?_
    rintro e v1 ⟨rfl, rfl⟩
    go_wp2_with fail
    refine HK.out.mono ?_
    rintro e v2 ⟨rfl, rfl⟩
    have hs1 : (0 : Int) < (n : Int) + 16 := by omega
    have hs2 : (1 : Int) ≤ (n : Int) := by omega
    have hs3 : (n : Int) ≤ 16384 := by omega
    go_wp2_with fail
    go_ret
    exact ⟨rfl, HBQ.out⟩
  have hiy4 : ¬ 2147483648 ≤ y := by omega
  obtain ⟨B, rfl⟩ : ∃ B : Nat, y = (B : Int) := ⟨y.toNat, by omega⟩
  obtain ⟨m, hm⟩ : ∃ m, n + 16 = m := ⟨_, rfl⟩
  have HM := hid hm
  have hB : B < 2147483648 := by omega
  have q0 : ¬ (B : Int) < 0 := by omega
  clear y3 y4 hiy3 hiy4 hm
  go_wp2_with fail
  refine (make_any L B a l n cap v HLl.out (by omega) HN.out (by omega) (by omega) (HR.out.below HBQ.out)).mono ?_
  rintro e w2 ⟨g2, c2, rfl, hm2, hb2⟩
  rw [HM.out] at hm2 ⊢
  have HM2 := hid (hm2.low HBQ.out.size)
  have HB2 := hid (HBQ.out.trans (hb2.mono HBQ.out.size))
  clear hm2 hb2 HBQ
  go_wp2_with fail
  refine (refFrame_any L B a l n cap w2 HLl.out (by omega) HN.out (by omega) (HR.out.below HB2.out)).mono ?_
  rintro e w3 ⟨g3, c3, rfl, hm3, hb3⟩
  rw [HM.out] at hm3 ⊢
  have HM3 := hid (hm3.low HB2.out.size)
  have HF3 := hid (HM2.out.below hb3)
  have HB3 := hid (HB2.out.trans (hb3.mono HB2.out.size))
  clear hm3 hb3 HB2 HM2
  obtain ⟨w4, hw4⟩ : ∃ w4, w4 = w3.alloc (.cells #[] 5) := ⟨_, rfl⟩
  have hb4 : Below w3.heap.size w3 w4 := by rw [hw4]; exact (Below.refl _ _).alloc (Nat.le_refl _) _
  have hm4 : Mine w3.heap.size w4 w3.heap.size 0 0 [] := by rw [hw4]; exact mine_empty w3
  obtain ⟨g5, c5, w5, hrun5, hm5, hb5⟩ := hm4.app 23 _ (mk L B l) m c2 HF3.out.1 (HF3.out.row.2.below hb4) m (by omega) (by have := HM.out; omega) hb4.size
  rw [List.nil_append] at hm5
  have hb35 := hb4.trans hb5
  obtain ⟨g6, c6, w6, hrun6, hm6, hb6⟩ := hm5.app 23 a2 l2 n2 cap2 HN2.out (HR2.out.below (HB3.out.trans (hb35.mono HB3.out.size))) (m + n2) rfl (by have := HM.out; omega) hb35.size
  have hb36 := hb35.trans hb6
  have HM6 := hid hm6
  have HF6 := hid (HF3.out.below hb36)
  have HG6 := hid (HM3.out.below hb36)
  have HB6 := hid (HB3.out.trans (hb36.mono HB3.out.size))
  have HR5 := hid hrun5
  have HR6 := hid hrun6
  rw [hw4] at HR5
  clear hw4 hb4 hm4 hrun5 hm5 hb5 hb35 hrun6 hm6 hb6 hb36 HF3 HM3 HB3
  have tokA : True := trivial
  have tokB : True := trivial
  go_wp2_with (first | (at_builtin; have _t := tokA; refine step_appl 23 rfl _ _ rfl _ _ rfl rfl _ w5 HR5.out ?_; clear tokA) | (at_builtin; have _t := tokB; refine step_appl 23 rfl _ _ rfl _ _ rfl rfl _ w6 HR6.out ?_; clear tokB))
  clear HR5 HR6
  have HRD : Hid (rd L (mk L B l ++ l2) = some (l, B)) := rd_mk (by have := HN.out; omega) (by have := HN.out; omega) (by omega) l2
  refine (read_any L _ (mk L B l ++ l2) (m + n2) c6 w6 HLl.out HM6.out.1 HM6.out.row.1 HM6.out.row.2).mono ?_
  rintro e w7 ⟨hrd, hb7⟩
  rw [HRD.out] at hrd
  obtain ⟨a7, n7, c7, rfl, hn7, hr7⟩ := readen_some hrd
  obtain rfl : n = n7 := HN.out.symm.trans hn7
  have HB7 := hid (HB6.out.trans (hb7.mono HB6.out.size))
  have s1 : (convert 23 9 (.slice (some ⟨g2, 0, none⟩) m c2)).run Try.prog w7 = .ok (.string (strOf (mk L B l))) w7 := str_any w7 _ _ _ _ HF6.out.1 (HF6.out.row.2.below hb7)
  have s2 : (convert 23 9 (.slice (some ⟨g3, 0, none⟩) m c3)).run Try.prog w7 = .ok (.string (strOf (mk L B l))) w7 := str_any w7 _ _ _ _ HG6.out.1 (HG6.out.row.2.below hb7)
  have s3 : (convert 23 9 (.slice a7 n c7)).run Try.prog w7 = .ok (.string (strOf l)) w7 := str_any w7 _ _ _ _ HN.out hr7
  have s4 : (convert 23 9 (.slice a n cap)).run Try.prog w7 = .ok (.string (strOf l)) w7 := str_any w7 _ _ _ _ HN.out (HR.out.below HB7.out)
  have HK := hid (size_any (n : Int) w7)
  rw [siz_yes (by omega), show (n : Int) + 16 = (m : Int) by have := HM.out; omega] at HK
  clear hrd hb7 hn7 hr7 HM6 HF6 HG6 HB6
  generalize strOf (mk L B l) = SA at *
  generalize strOf l = SB at *
  generalize nx L l = X
  go_wp2_with fail
  refine HK.out.mono ?_
  rintro e w8 ⟨rfl, rfl⟩
  go_wp2_with fail
  go_ret
  exact ⟨rfl, HB7.out⟩
theorem frameTurns_all (W : World) (x0 y0 : Int) (_ : (Lit.int .i64 x0).wf = true) (_ : (Lit.int .i64 y0).wf = true) (a1 : Option Addr) (len1 cap1 : Nat) (l1 : List Nat) (hr1 : Row W a1 l1) (hl1 : l1.length = len1) (a2 : Option Addr) (len2 cap2 : Nat) (l2 : List Nat) (hr2 : Row W a2 l2) (hl2 : l2.length = len2) :
    Calls Try.prog 3 #[.agg #[.int .i64 x0, .int .i64 y0], .slice a1 len1 cap1, .slice a2 len2 cap2] W fun e w' => e = .returned (.bool true) ∧ Below W.heap.size W w' :=
  frameTurns_walk x0 y0 a1 l1 len1 cap1 a2 l2 len2 cap2 W hl1 hr1 hl2 hr2
set_option linter.unusedVariables false
set_option maxRecDepth 100000 in
theorem frameTurns_lifted (os : Os) (started : os.Started) (H : Type) (enc : TypeId × Value → H) :
    ReturnsInHanded {} Try.checked os 3 .any (Rows.frameTurnsSpec.pre6 enc Try.prog Try.f3 Rows.frameTurnsRow.domain false) (Rows.frameTurnsSpec.post enc Try.prog Try.f3 false true false false) := by
  refine returnsInHanded_of_change (C := Try.checked) own started (by kernel_rfl) Try.func3
    (ChangeSpec.witness6 (enc := enc) (C := Try.checked) false ⟨#[], #[.agg #[.int .i64 0, .int .i64 0], .slice none 0 0, .slice none 0 0], []⟩ 8 (by kernel_rfl) (by kernel_rfl) (by kernel_rfl) (by kernel_rfl)) ?_
  intro W base args ds gs before hval0 hW hcnd _
  have hval : ∀ (j : Nat) t v, Try.f3.params[j]? = some t → args[j]? = some v → Value.okWide Try.prog W .any base t v := hval0
  have hW' := hW
  obtain ⟨p, q, hA0, hV, rfl, hfz, hnd⟩ := hW
  have hA : DataW.TrodAll enc Try.prog W 0 (fun _ => true) true Try.f3.params.toList args.toList ds p := hA0
  rw [Try.params3] at hA hval
  obtain ⟨v0, vs0, d0, ds0, p0, q0, hargs, rfl, rfl, h0, r0⟩ := trodAll_cons hA
  obtain ⟨v1, vs1, d1, ds1, p1, q1, rfl, rfl, rfl, h1, r1⟩ := trodAll_cons r0
  obtain ⟨v2, vs2, d2, ds2, p2, q2, rfl, rfl, rfl, h2, r2⟩ := trodAll_cons r1
  obtain ⟨rfl, rfl, rfl⟩ := trodAll_nil r2
  obtain rfl : args = #[v0, v1, v2] := by cases args; simp_all
  obtain ⟨rfl, rfl⟩ := trodVars_none hV
  obtain ⟨x0, y0, rfl, wx0, wy0⟩ := pair_of Try.underlying22 (by kernel_rfl) (by kernel_rfl) Try.underlying3 (hval 0 22 v0 rfl rfl) h0
  have k0 := h0
  have lt0 : ∀ x ∈ p0, x.block < W.heap.size := by obtain ⟨m, hm⟩ := k0; exact DataW.trod_lt m _ _ _ hm
  obtain ⟨a1, len1, cap1, rfl⟩ := okWide_slice Try.underlying23 (hval 1 23 v1 rfl rfl)
  have k1 := h1
  have lt1 : ∀ x ∈ p1, x.block < W.heap.size := by obtain ⟨m, hm⟩ := k1; exact DataW.trod_lt m _ _ _ hm
  obtain ⟨l1, hl1, hr1⟩ : ∃ l, l.length = len1 ∧ Row W a1 l := by
    obtain ⟨fuel, hf⟩ := h1
    exact rows_of hf
  obtain ⟨a2, len2, cap2, rfl⟩ := okWide_slice Try.underlying23 (hval 2 23 v2 rfl rfl)
  have k2 := h2
  have lt2 : ∀ x ∈ p2, x.block < W.heap.size := by obtain ⟨m, hm⟩ := k2; exact DataW.trod_lt m _ _ _ hm
  obtain ⟨l2, hl2, hr2⟩ : ∃ l, l.length = len2 ∧ Row W a2 l := by
    obtain ⟨fuel, hf⟩ := h2
    exact rows_of hf
  clear hA0 hval0
  refine (frameTurns_all W x0 y0 wx0 wy0 a1 len1 cap1 l1 hr1 hl1 a2 len2 cap2 l2 hr2 hl2).mono fun e W' ⟨he, bel⟩ => ?_
  subst he
  exact ⟨_, rfl, _, _, _, [], _, [], hW', trodAll_mk1 (shut_bool Try.underlying4 _), (trodAll_cons_mk (Below.trod laidOut (by kernel_rfl) (of_decide_eq_true (by kernel_rfl)) k0 bel lt0) (trodAll_cons_mk (Below.trod laidOut (by kernel_rfl) (of_decide_eq_true (by kernel_rfl)) k1 bel lt1) (trodAll_cons_mk (Below.trod laidOut (by kernel_rfl) (of_decide_eq_true (by kernel_rfl)) k2 bel lt2) trodAll_mk0))), rfl, bel.frame _, fun h => by cases h⟩

theorem frameTurns_over : Rows.frameTurnsRow.holds Try.pinned (OpenSpec.ofChange Rows.frameTurnsSpec) :=
  OpenClaim.holds_of_wide 3 Try.f3 rfl rfl rfl rfl rfl rfl rfl ⟨rfl, rfl, rfl, rfl, rfl⟩ rfl rfl rfl rfl rfl (by kernel_rfl) Try.func3 (by kernel_rfl)
    (of_decide_eq_true (by kernel_rfl)) (by unfold Func.isWrapper; first | (rw [if_pos (by decide +kernel)]; kernel_rfl) | (rw [if_neg (by decide +kernel)]; exact ⟨rfl, rfl⟩))
    (fun os started H enc _ => frameTurns_lifted os started H enc)
theorem frameTurns_holds : Rows.FrameTurnsSaid := frameTurns_over
#print axioms frameTurns_holds
end Go.Proofs.Ythfpjpknmaebbaa
