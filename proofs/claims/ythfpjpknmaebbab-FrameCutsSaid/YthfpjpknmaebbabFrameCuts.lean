/- FrameCuts: a frame of which the end is missing is none; with anything behind it it is one. No condition. -/
import Derived.Test.YthfpjpknmaebbabAwake
namespace Go.Proofs.Ythfpjpknmaebbab
open Go.ChangeShapes Go.WideShapes Go.ChangeAt Go.RowKit Pen
open Crc (four nx run)
set_option maxRecDepth 4000
set_option maxRecDepth 10000 in
set_option maxHeartbeats 8000000 in
theorem frameCuts_walk (a : Option Addr) (l : List Nat) (n cap at_ : Nat) (a2 : Option Addr) (l2 : List Nat) (n2 cap2 : Nat) (w : World) (hn : l.length = n) (hr : Row w a l) (hat : at_ < 65536) (hn2 : l2.length = n2) (hr2 : Row w a2 l2) :
    Calls Try.prog 3 #[.slice a n cap, .int .u16 (at_ : Int), .slice a2 n2 cap2] w fun e w' => e = .returned (.bool true) ∧ Below w.heap.size w w' := by
  have HR := hid hr
  have HN := hid hn
  have HR2 := hid hr2
  have HN2 := hid hn2
  clear hr hn hr2 hn2
  by_cases z1 : n < 1
  · have hiz1 : (n : Int) < 1 := by omega
    go_enter Try.func3, Try.ntmps3
    go_wp2_with fail
    refine (awake_any w).mono ?_
    rintro e w1 ⟨rfl, hb1⟩
    have HB1 := hid hb1
    clear hb1
    go_wp2_with fail
    go_ret
    exact ⟨rfl, HB1.out⟩
  have hiz1 : ¬ (n : Int) < 1 := by omega
  by_cases z2 : 2000 < n
  · have hiz2 : (2000 : Int) < (n : Int) := by omega
    go_enter Try.func3, Try.ntmps3
    go_wp2_with fail
    refine (awake_any w).mono ?_
    rintro e w1 ⟨rfl, hb1⟩
    have HB1 := hid hb1
    clear hb1
    go_wp2_with fail
    go_ret
    exact ⟨rfl, HB1.out⟩
  have hiz2 : ¬ (2000 : Int) < (n : Int) := by omega
  by_cases z3 : 200 < n2
  · have hiz3 : (200 : Int) < (n2 : Int) := by omega
    go_enter Try.func3, Try.ntmps3
    go_wp2_with fail
    refine (awake_any w).mono ?_
    rintro e w1 ⟨rfl, hb1⟩
    have HB1 := hid hb1
    clear hb1
    go_wp2_with fail
    go_ret
    exact ⟨rfl, HB1.out⟩
  have hiz3 : ¬ (200 : Int) < (n2 : Int) := by omega
  obtain ⟨m, hm⟩ : ∃ m, n + 16 = m := ⟨_, rfl⟩
  have HM := hid hm
  obtain ⟨K, hK, hKm⟩ : ∃ K : Nat, (at_ : Int) % (m : Int) = (K : Int) ∧ K < m := ⟨at_ % m, by rw [Int.natCast_emod], Nat.mod_lt _ (by omega)⟩
  have hK2 : (at_ : Int).tmod (m : Int) = (K : Int) := by rw [Int.tmod_eq_emod_of_nonneg (by omega)]; exact hK
  have hm0 : ((m : Int) == 0) = false := by simp; omega
  clear hm
  go_enter Try.func3, Try.ntmps3
  go_wp2_with fail
  refine (awake_any w).mono ?_
  rintro e w1 ⟨rfl, hb1⟩
  have HB1 := hid hb1
  clear hb1
  go_wp2_with fail
  refine (make_any 3 2 a l n cap w1 (by decide) (by decide) HN.out (by omega) (by omega) (HR.out.below HB1.out)).mono ?_
  rintro e w2 ⟨g2, c2, rfl, hm2, hb2⟩
  rw [HM.out] at hm2 ⊢
  have HM2 := hid (hm2.low HB1.out.size)
  have HB2 := hid (HB1.out.trans (hb2.mono HB1.out.size))
  clear hm2 hb2 HB1
  generalize nx 3 l = X0
  have hst : ∀ w, (Instr.slice 22 (.slice (some ⟨g2, 0, none⟩) m c2) none (some (.int .i64 (K : Int))) none).run Try.prog w = .ok (.slice (some ⟨g2, 0, none⟩) K c2) w := fun w => slice_to w _ m c2 K (by have := HM2.out.row.1; omega)
  have HRC : Hid (rd 3 ((mk 3 2 l).take K) = none) := rd_cut (by have := HN.out; omega) K (by have := HN.out; have := HM.out; omega)
  go_wp2_with fail
  refine (read_any 3 _ ((mk 3 2 l).take K) K c2 w2 (by decide) (by rw [List.length_take, HM2.out.1]; omega) (by have := HM2.out.row.1; omega) (row_take HM2.out.row.2 K)).mono ?_
  rintro e w3 ⟨hrd, hb3⟩
  rw [HRC.out] at hrd
  obtain rfl := readen_none hrd
  have HF3 := hid (HM2.out.below hb3)
  have HB3 := hid (HB2.out.trans (hb3.mono HB2.out.size))
  clear hrd hb3 HM2 HB2 hst hK hK2
  obtain ⟨w4, hw4⟩ : ∃ w4, w4 = w3.alloc (.cells #[] 5) := ⟨_, rfl⟩
  have hb4 : Below w3.heap.size w3 w4 := by rw [hw4]; exact (Below.refl _ _).alloc (Nat.le_refl _) _
  have hm4 : Mine w3.heap.size w4 w3.heap.size 0 0 [] := by rw [hw4]; exact mine_empty w3
  obtain ⟨g5, c5, w5, hrun5, hm5, hb5⟩ := hm4.app 22 _ (mk 3 2 l) m c2 HF3.out.1 (HF3.out.row.2.below hb4) m (by omega) (by have := HM.out; omega) hb4.size
  rw [List.nil_append] at hm5
  have hb35 := hb4.trans hb5
  obtain ⟨g6, c6, w6, hrun6, hm6, hb6⟩ := hm5.app 22 a2 l2 n2 cap2 HN2.out (HR2.out.below (HB3.out.trans (hb35.mono HB3.out.size))) (m + n2) rfl (by have := HM.out; omega) hb35.size
  have hb36 := hb35.trans hb6
  have HM6 := hid hm6
  have HB6 := hid (HB3.out.trans (hb36.mono HB3.out.size))
  have HR5 := hid hrun5
  have HR6 := hid hrun6
  rw [hw4] at HR5
  clear hw4 hb4 hm4 hrun5 hm5 hb5 hb35 hrun6 hm6 hb6 hb36 HF3 HB3
  have tokA : True := trivial
  have tokB : True := trivial
  go_wp2_with (first | (at_builtin; have _t := tokA; refine step_appl 22 rfl _ _ rfl _ _ rfl rfl _ w5 HR5.out ?_; clear tokA) | (at_builtin; have _t := tokB; refine step_appl 22 rfl _ _ rfl _ _ rfl rfl _ w6 HR6.out ?_; clear tokB))
  clear HR5 HR6
  have HRD : Hid (rd 3 (mk 3 2 l ++ l2) = some (l, 2)) := rd_mk (by have := HN.out; omega) (by have := HN.out; omega) (by omega) l2
  refine (read_any 3 _ (mk 3 2 l ++ l2) (m + n2) c6 w6 (by decide) HM6.out.1 HM6.out.row.1 HM6.out.row.2).mono ?_
  rintro e w7 ⟨hrd, hb7⟩
  rw [HRD.out] at hrd
  obtain ⟨a7, n7, c7, rfl, hn7, hr7⟩ := readen_some hrd
  obtain rfl : n = n7 := HN.out.symm.trans hn7
  have HB7 := hid (HB6.out.trans (hb7.mono HB6.out.size))
  have s3 : (convert 22 9 (.slice a7 n c7)).run Try.prog w7 = .ok (.string (strOf l)) w7 := str_any w7 _ _ _ _ HN.out hr7
  have s4 : (convert 22 9 (.slice a n cap)).run Try.prog w7 = .ok (.string (strOf l)) w7 := str_any w7 _ _ _ _ HN.out (HR.out.below HB7.out)
  clear hrd hb7 hn7 hr7 HM6 HB6
  generalize strOf l = SB at *
  generalize nx 3 l = X
  go_wp2_with fail
  go_ret
  exact ⟨rfl, HB7.out⟩
set_option linter.unusedVariables false
theorem frameCuts_all (a0 : Option Addr) (len0 cap0 : Nat) (z0 : List Int) (a1 : Int) (a2 : Option Addr) (len2 cap2 : Nat) (z2 : List Int) (w : World) (w0 : IsRow .u8 w a0 len0 cap0 z0) (w1 : (Lit.int .u16 a1).wf = true) (w2 : IsRow .u8 w a2 len2 cap2 z2) :
    Calls Try.prog 3 #[.slice a0 len0 cap0, .int .u16 a1, .slice a2 len2 cap2] w fun e w' => e = .returned (.bool true) ∧ Below w.heap.size w w' := by
  have hb1 := bounds_u16 w1
  obtain ⟨n1, rfl⟩ : ∃ n : Nat, a1 = (n : Int) := ⟨a1.toNat, by omega⟩
  obtain ⟨l, hl, hr, hc, _⟩ := bytes_of w0
  obtain ⟨l2, hl2, hr2, hc2, _⟩ := bytes_of w2
  exact frameCuts_walk a0 l len0 cap0 n1 a2 l2 len2 cap2 w hl hr (by omega) hl2 hr2

set_option maxRecDepth 100000 in
theorem frameCuts_lifted (os : Os) (started : os.Started) (H : Type) (enc : TypeId × Value → H) :
    ReturnsInHanded {} Try.checked os 3 .any (Rows.frameCutsSpec.pre6 enc Try.prog Try.f3 Rows.frameCutsRow.domain false) (Rows.frameCutsSpec.post enc Try.prog Try.f3 false true false false) := by
  refine returnsInHanded_of_change (C := Try.checked) own started (by kernel_rfl) Try.func3
    (ChangeSpec.witness6 (enc := enc) (C := Try.checked) false ⟨#[], #[.slice none 0 0, .int .u16 0, .slice none 0 0], []⟩ 8 (by kernel_rfl) (by kernel_rfl) (by kernel_rfl) (by kernel_rfl)) ?_
  intro W base args ds gs before hval0 hW hcnd _
  have hval : ∀ (j : Nat) t v, Try.f3.params[j]? = some t → args[j]? = some v → Value.okWide Try.prog W .any base t v := hval0
  have hW' := hW
  obtain ⟨p, q, hA0, hV, rfl, hfz, hnd⟩ := hW
  have hA : DataW.TrodAll enc Try.prog W 0 (fun _ => true) true Try.f3.params.toList args.toList ds p := hA0
  rw [Try.params3] at hA hval
  obtain ⟨v0, vs0, d0, ds0, p0, q0, hargs, rfl, rfl, h0, r0⟩ := trodAll_cons hA
  obtain ⟨v1, vs1, d1, ds1, p1, q1, rfl, rfl, rfl, h1, r1⟩ := trodAll_cons r0
  obtain ⟨v2, vs2, d2, ds2, p2, q2, rfl, rfl, rfl, h2, r2⟩ := trodAll_cons r1
  obtain ⟨rfl, rfl, rfl⟩ := trodAll_nil r2
  obtain rfl : args = #[v0, v1, v2] := by cases args; simp_all
  obtain ⟨rfl, rfl⟩ := trodVars_none hV
  obtain ⟨a0, len0, cap0, rfl⟩ := okWide_slice Try.underlying22 (hval 0 22 v0 rfl rfl)
  have k0 := h0
  have lt0 : ∀ x ∈ p0, x.block < W.heap.size := by obtain ⟨m, hm⟩ := k0; exact DataW.trod_lt m _ _ _ hm
  obtain ⟨z0, w0⟩ : ∃ zs, IsRow .u8 W a0 len0 cap0 zs := by
    obtain ⟨fuel, hf⟩ := h0
    rcases open_ints Try.underlying22 Try.underlying5 (by kernel_rfl) hf with ⟨hcs, _⟩ | ⟨x, l, c, zs, hcs, _, hl, hm, hz, _, hcell, hwz⟩
    · simp [Value.cells] at hcs
      obtain ⟨rfl, rfl, rfl⟩ := hcs
      exact ⟨[], .inl ⟨rfl, rfl, rfl, rfl⟩⟩
    · simp [Value.cells] at hcs
      obtain ⟨rfl, rfl, rfl⟩ := hcs
      exact ⟨zs, .inr ⟨_, rfl, hl, hm, by simpa using hz, hcell, hwz⟩⟩
  obtain ⟨a1, rfl, rfl, rfl, w1⟩ := open_int Try.underlying23 (hval 1 23 v1 rfl rfl) h1
  obtain ⟨a2, len2, cap2, rfl⟩ := okWide_slice Try.underlying22 (hval 2 22 v2 rfl rfl)
  have k2 := h2
  have lt2 : ∀ x ∈ p2, x.block < W.heap.size := by obtain ⟨m, hm⟩ := k2; exact DataW.trod_lt m _ _ _ hm
  obtain ⟨z2, w2⟩ : ∃ zs, IsRow .u8 W a2 len2 cap2 zs := by
    obtain ⟨fuel, hf⟩ := h2
    rcases open_ints Try.underlying22 Try.underlying5 (by kernel_rfl) hf with ⟨hcs, _⟩ | ⟨x, l, c, zs, hcs, _, hl, hm, hz, _, hcell, hwz⟩
    · simp [Value.cells] at hcs
      obtain ⟨rfl, rfl, rfl⟩ := hcs
      exact ⟨[], .inl ⟨rfl, rfl, rfl, rfl⟩⟩
    · simp [Value.cells] at hcs
      obtain ⟨rfl, rfl, rfl⟩ := hcs
      exact ⟨zs, .inr ⟨_, rfl, hl, hm, by simpa using hz, hcell, hwz⟩⟩
  clear hA0 hval0
  refine (frameCuts_all a0 len0 cap0 z0 a1 a2 len2 cap2 z2 W w0 w1 w2).mono fun e W' ⟨he, bel⟩ => ?_
  subst he
  exact ⟨_, rfl, _, _, _, [], _, [], hW', trodAll_mk1 (shut_bool Try.underlying4 _), (trodAll_cons_mk (Below.trod laidOut (by kernel_rfl) (of_decide_eq_true (by kernel_rfl)) k0 bel lt0) (trodAll_cons_mk (shut_int Try.underlying23 w1) (trodAll_cons_mk (Below.trod laidOut (by kernel_rfl) (of_decide_eq_true (by kernel_rfl)) k2 bel lt2) trodAll_mk0))), rfl, bel.frame _, fun h => by cases h⟩

theorem frameCuts_over : Rows.frameCutsRow.holds Try.pinned (OpenSpec.ofChange Rows.frameCutsSpec) :=
  OpenClaim.holds_of_wide 3 Try.f3 rfl rfl rfl rfl rfl rfl rfl ⟨rfl, rfl, rfl, rfl, rfl⟩ rfl rfl rfl rfl rfl (by kernel_rfl) Try.func3 (by kernel_rfl)
    (of_decide_eq_true (by kernel_rfl)) (by unfold Func.isWrapper; first | (rw [if_pos (by decide +kernel)]; kernel_rfl) | (rw [if_neg (by decide +kernel)]; exact ⟨rfl, rfl⟩))
    (fun os started H enc _ => frameCuts_lifted os started H enc)

theorem frameCuts_holds : Rows.FrameCutsSaid := frameCuts_over
#print axioms frameCuts_holds
end Go.Proofs.Ythfpjpknmaebbab
