/- CutLocal: a hash is that of its last bytes alone; so an end, but for where its piece begins. No condition. -/
import Derived.Test.YtjjhaohgbhekhaaJoin
namespace Go.Proofs.Ytjjhaohgbhekhaa
open Go.ChangeShapes Go.WideShapes Go.ChangeAt Go.RowKit
set_option maxRecDepth 4000
set_option linter.unusedVariables false
set_option maxHeartbeats 2000000 in
theorem cutLocal_walk (a0 : Option Addr) (len0 cap0 : Nat) (z0 : List Int) (a1 : Option Addr) (len1 cap1 : Nat) (z1 : List Int) (a2 : Option Addr) (len2 cap2 : Nat) (z2 : List Int) (w : World) (w0 : IsRow .u8 w a0 len0 cap0 z0) (w1 : IsRow .u8 w a1 len1 cap1 z1) (w2 : IsRow .u8 w a2 len2 cap2 z2) :
    Calls Try.prog 5 #[.slice a0 len0 cap0, .slice a1 len1 cap1, .slice a2 len2 cap2] w fun e w' => e = .returned (.bool true) ∧ Below w.heap.size w w' := by
  obtain ⟨l0, hl0, hr0, hcap0, hcm0⟩ := bytes_of w0
  obtain ⟨l1, hl1, hr1, hcap1, hcm1⟩ := bytes_of w1
  obtain ⟨l2, hl2, hr2, hcap2, hcm2⟩ := bytes_of w2
  clear w0 w1 w2 hcm0 hcm1 hcm2
  by_cases hg : len0 ≤ 500 ∧ len1 ≤ 500 ∧ 8 ≤ len2 ∧ len2 ≤ 500
  · obtain ⟨hg0, hg1, hg2, hg3⟩ := hg
    have i0 : (len0 : Int) ≤ 500 := by omega
    have i1 : (len1 : Int) ≤ 500 := by omega
    have i2 : 8 ≤ (len2 : Int) := by omega
    have i3 : (len2 : Int) ≤ 500 := by omega
    have HR0 := hid hr0
    have HR1 := hid hr1
    have HR2 := hid hr2
    have H0 := hid hl0
    have H1 := hid hl1
    have H2 := hid hl2
    clear hl0 hl1 hl2 hr0 hr1 hr2 hg0 hg1 hg2 hg3
    go_enter Try.func5, Try.ntmps5
    go_wp2_with fail
    refine (awake_any w).mono ?_
    rintro e w2 ⟨rfl, hb2⟩
    have HB2 := hid hb2
    obtain ⟨k0, hk0⟩ : ∃ k0, len0 + len2 = k0 := ⟨_, rfl⟩
    obtain ⟨k1, hk1⟩ : ∃ k1, len1 + len2 = k1 := ⟨_, rfl⟩
    obtain ⟨g1, c1, w3, g2, c2, w4, hrA, hrB, ⟨hcx, hx⟩, hbx⟩ := joined w2 a0 a2 l0 l2 len0 len2 k0 cap0 cap2 H0.out H2.out hk0 (by omega) (HR0.out.below hb2) (HR2.out.below hb2)
    have hb4 := hb2.trans (hbx.mono hb2.size)
    obtain ⟨g3, c3, w5, g4, c4, w6, hrC, hrD, ⟨hcy, hy⟩, hby⟩ := joined w4 a1 a2 l1 l2 len1 len2 k1 cap1 cap2 H1.out H2.out hk1 (by omega) (HR1.out.below hb4) (HR2.out.below hb4)
    have HX := hid (hx.below hby)
    have HY := hid hy
    have HCX := hid hcx
    have HCY := hid hcy
    have HB6 := hid (hb4.trans (hby.mono hb4.size))
    have HK0 := hid hk0
    have HK1 := hid hk1
    have HRA := hid hrA
    have HRB := hid hrB
    have HRC := hid hrC
    have HRD := hid hrD
    have tokA : True := trivial
    have tokB : True := trivial
    have tokC : True := trivial
    have tokD : True := trivial
    clear hb2 hk0 hk1 hrA hrB hrC hrD hcx hx hbx hb4 hcy hy hby
    go_wp2_with (first | (at_builtin; have _t := tokA; refine step_appl 22 rfl _ _ rfl _ _ rfl rfl _ w3 HRA.out ?_; clear tokA) | (at_builtin; have _t := tokB; refine step_appl 22 rfl _ _ rfl _ _ rfl rfl _ w4 HRB.out ?_; clear tokB) | (at_builtin; have _t := tokC; refine step_appl 22 rfl _ _ rfl _ _ rfl rfl _ w5 HRC.out ?_; clear tokC) | (at_builtin; have _t := tokD; refine step_appl 22 rfl _ _ rfl _ _ rfl rfl _ w6 HRD.out ?_; clear tokD))
    have HHX := hid (fun i (hi : i < len2) (h7 : 7 ≤ i) => by
      have := hash_any _ (l0 ++ l2) k0 c2 (len0 + i) w6 (by rw [List.length_append, H0.out, H2.out, HK0.out]) HCX.out (by have := HK0.out; omega) HX.out (by have := HK0.out; omega)
      rwa [← H0.out, hash_app l0 l2 i h7, H0.out] at this)
    have HHY := hid (fun i (hi : i < len2) (h7 : 7 ≤ i) => by
      have := hash_any _ (l1 ++ l2) k1 c4 (len1 + i) w6 (by rw [List.length_append, H1.out, H2.out, HK1.out]) HCY.out (by have := HK1.out; omega) HY.out (by have := HK1.out; omega)
      rwa [← H1.out, hash_app l1 l2 i h7, H1.out] at this)
    have HEX := hid (fun i (hi : i < len2) => by
      have := ends_any _ (l0 ++ l2) k0 c2 (len0 + i) w6 (by rw [List.length_append, H0.out, H2.out, HK0.out]) HCX.out (by have := HK0.out; omega) HX.out (by have := HK0.out; omega)
      rwa [← H0.out, ends_app l0 l2 i (by rw [H2.out]; exact hi), H0.out] at this)
    have HEY := hid (fun i (hi : i < len2) => by
      have := ends_any _ (l1 ++ l2) k1 c4 (len1 + i) w6 (by rw [List.length_append, H1.out, H2.out, HK1.out]) HCY.out (by have := HK1.out; omega) HY.out (by have := HK1.out; omega)
      rwa [← H1.out, ends_app l1 l2 i (by rw [H2.out]; exact hi), H1.out] at this)
    clear HX HY HCX HCY HK0 HK1 HRA HRB HRC HRD
    go_loopg [9] (len2 - 7) (fun gk v9 wr => ∃ i : Nat, i + gk = len2 ∧ 7 ≤ i ∧ v9 = .int .i64 (i : Int) ∧ wr = w6)
    case atStart => exact ⟨7, by omega, by omega, rfl, rfl⟩
    case round =>
      obtain ⟨i, hi, hi7, rfl, rfl⟩ := hrel
      have HI := hid (And.intro hi hi7)
      by_cases hil : i < len2
      · have hii : (i : Int) < (len2 : Int) := by omega
        have HA := hid (HHX.out i hil hi7)
        have HB := hid (HHY.out i hil hi7)
        obtain ⟨I0, hI0⟩ : ∃ I0, len0 + i = I0 := ⟨_, rfl⟩
        obtain ⟨I1, hI1⟩ : ∃ I1, len1 + i = I1 := ⟨_, rfl⟩
        have j0 : (len0 : Int) + (i : Int) = (I0 : Int) := by omega
        have j1 : (len1 : Int) + (i : Int) = (I1 : Int) := by omega
        rw [hI0] at HA
        rw [hI1] at HB
        have j5 : (I0 : Int) ≤ 1000 := by omega
        have j6 : (I1 : Int) ≤ 1000 := by omega
        clear hI0 hI1 hi hi7 HHX HHY HEX HEY
        generalize hash l2 i = HV at *
        go_wp2_with fail
        refine HA.out.mono ?_
        rintro e w7 ⟨rfl, rfl⟩
        go_wp2_with fail
        refine HB.out.mono ?_
        rintro e w8 ⟨rfl, rfl⟩
        go_wp2_with fail
        go_roundg (gk - 1)
        case measure => have := HI.out; omega
        case rel => exact ⟨i + 1, by have := HI.out; omega, by have := HI.out; omega, by go_num, rfl⟩
      · have hii : ¬ (i : Int) < (len2 : Int) := by omega
        clear HHX HHY hi hi7
        go_wp2_with fail
        obtain ⟨G, hG⟩ : ∃ G, G = gk := ⟨_, rfl⟩
        subst hG
        go_loopg [10] (len2 - 8) (fun gk v10 w' => ∃ i : Nat, i + gk = len2 ∧ 8 ≤ i ∧ v10 = .int .i64 (i : Int) ∧ w' = wr)
        case atStart => exact ⟨8, by omega, by omega, rfl, rfl⟩
        case round =>
          obtain ⟨j, hj, hj8, rfl, rfl⟩ := hrel
          have HJ := hid (And.intro hj hj8)
          by_cases hjl : j < len2
          · have hjj : (j : Int) < (len2 : Int) := by omega
            have HA := hid (HEX.out j hjl)
            have HB := hid (HEY.out j hjl)
            have hlo := ends_lo (l := l2) (f := j) (by rw [H2.out]; exact hjl)
            have hhi := ends_hi (l := l2) (f := j) (by rw [H2.out]; exact hjl)
            rw [H2.out] at hhi
            obtain ⟨I0, hI0⟩ : ∃ I0, len0 + j = I0 := ⟨_, rfl⟩
            obtain ⟨I1, hI1⟩ : ∃ I1, len1 + j = I1 := ⟨_, rfl⟩
            obtain ⟨E0, hE0⟩ : ∃ E0, len0 + ends l2 j = E0 := ⟨_, rfl⟩
            obtain ⟨E1, hE1⟩ : ∃ E1, len1 + ends l2 j = E1 := ⟨_, rfl⟩
            have j0 : (len0 : Int) + (j : Int) = (I0 : Int) := by omega
            have j1 : (len1 : Int) + (j : Int) = (I1 : Int) := by omega
            rw [hI0, hE0] at HA
            rw [hI1, hE1] at HB
            have j5 : (I0 : Int) ≤ 1000 := by omega
            have j6 : (I1 : Int) ≤ 1000 := by omega
            generalize ends l2 j = EV at *
            have j7 : (E0 : Int) - (len0 : Int) = (EV : Int) := by omega
            have j8 : (E1 : Int) - (len1 : Int) = (EV : Int) := by omega
            clear hI0 hI1 hE0 hE1 hj hj8 HEX HEY hlo hhi
            go_wp2_with fail
            refine HA.out.mono ?_
            rintro e w7 ⟨rfl, rfl⟩
            go_wp2_with fail
            refine HB.out.mono ?_
            rintro e w8 ⟨rfl, rfl⟩
            go_wp2_with fail
            go_roundg (gk - 1)
            case measure => have := HJ.out; omega
            case rel => exact ⟨j + 1, by have := HJ.out; omega, by have := HJ.out; omega, by go_num, rfl⟩
          · have hjj : ¬ (j : Int) < (len2 : Int) := by omega
            go_wp2_with fail
            go_ret
            exact ⟨rfl, HB6.out⟩
  · go_enter Try.func5, Try.ntmps5
    go_wp2_with fail
    refine (awake_any w).mono ?_
    rintro e w2 ⟨rfl, hb2⟩
    go_wp2_with fail
    all_goals first
      | (go_ret; exact ⟨rfl, hb2⟩)
      | (exfalso; omega)
set_option linter.unusedVariables false
set_option maxRecDepth 100000 in
theorem cutLocal_lifted (os : Os) (started : os.Started) (H : Type) (enc : TypeId × Value → H) :
    ReturnsInHanded {} Try.checked os 5 .any (Rows.cutLocalSpec.pre6 enc Try.prog Try.f5 Rows.cutLocalRow.domain false) (Rows.cutLocalSpec.post enc Try.prog Try.f5 false true false false) := by
  refine returnsInHanded_of_change (C := Try.checked) own started (by kernel_rfl) Try.func5
    (ChangeSpec.witness6 (enc := enc) (C := Try.checked) false ⟨#[], #[.slice none 0 0, .slice none 0 0, .slice none 0 0], []⟩ 8 (by kernel_rfl) (by kernel_rfl) (by kernel_rfl) (by kernel_rfl)) ?_
  intro W base args ds gs before hval0 hW hcnd _
  have hval : ∀ (j : Nat) t v, Try.f5.params[j]? = some t → args[j]? = some v → Value.okWide Try.prog W .any base t v := hval0
  have hW' := hW
  obtain ⟨p, q, hA0, hV, rfl, hfz, hnd⟩ := hW
  have hA : DataW.TrodAll enc Try.prog W 0 (fun _ => true) true Try.f5.params.toList args.toList ds p := hA0
  rw [Try.params5] at hA hval
  obtain ⟨v0, vs0, d0, ds0, p0, q0, hargs, rfl, rfl, h0, r0⟩ := trodAll_cons hA
  obtain ⟨v1, vs1, d1, ds1, p1, q1, rfl, rfl, rfl, h1, r1⟩ := trodAll_cons r0
  obtain ⟨v2, vs2, d2, ds2, p2, q2, rfl, rfl, rfl, h2, r2⟩ := trodAll_cons r1
  obtain ⟨rfl, rfl, rfl⟩ := trodAll_nil r2
  obtain rfl : args = #[v0, v1, v2] := by cases args; simp_all
  obtain ⟨rfl, rfl⟩ := trodVars_none hV
  obtain ⟨a0, len0, cap0, rfl⟩ := okWide_slice Try.underlying22 (hval 0 22 v0 rfl rfl)
  have k0 := h0
  have lt0 : ∀ x ∈ p0, x.block < W.heap.size := by obtain ⟨m, hm⟩ := k0; exact DataW.trod_lt m _ _ _ hm
  obtain ⟨z0, w0⟩ : ∃ zs, IsRow .u8 W a0 len0 cap0 zs := by
    obtain ⟨fuel, hf⟩ := h0
    rcases open_ints Try.underlying22 Try.underlying5 (by kernel_rfl) hf with ⟨hcs, _⟩ | ⟨x, l, c, zs, hcs, _, hl, hm, hz, _, hcell, hwz⟩
    · simp [Value.cells] at hcs
      obtain ⟨rfl, rfl, rfl⟩ := hcs
      exact ⟨[], .inl ⟨rfl, rfl, rfl, rfl⟩⟩
    · simp [Value.cells] at hcs
      obtain ⟨rfl, rfl, rfl⟩ := hcs
      exact ⟨zs, .inr ⟨_, rfl, hl, hm, by simpa using hz, hcell, hwz⟩⟩
  obtain ⟨a1, len1, cap1, rfl⟩ := okWide_slice Try.underlying22 (hval 1 22 v1 rfl rfl)
  have k1 := h1
  have lt1 : ∀ x ∈ p1, x.block < W.heap.size := by obtain ⟨m, hm⟩ := k1; exact DataW.trod_lt m _ _ _ hm
  obtain ⟨z1, w1⟩ : ∃ zs, IsRow .u8 W a1 len1 cap1 zs := by
    obtain ⟨fuel, hf⟩ := h1
    rcases open_ints Try.underlying22 Try.underlying5 (by kernel_rfl) hf with ⟨hcs, _⟩ | ⟨x, l, c, zs, hcs, _, hl, hm, hz, _, hcell, hwz⟩
    · simp [Value.cells] at hcs
      obtain ⟨rfl, rfl, rfl⟩ := hcs
      exact ⟨[], .inl ⟨rfl, rfl, rfl, rfl⟩⟩
    · simp [Value.cells] at hcs
      obtain ⟨rfl, rfl, rfl⟩ := hcs
      exact ⟨zs, .inr ⟨_, rfl, hl, hm, by simpa using hz, hcell, hwz⟩⟩
  obtain ⟨a2, len2, cap2, rfl⟩ := okWide_slice Try.underlying22 (hval 2 22 v2 rfl rfl)
  have k2 := h2
  have lt2 : ∀ x ∈ p2, x.block < W.heap.size := by obtain ⟨m, hm⟩ := k2; exact DataW.trod_lt m _ _ _ hm
  obtain ⟨z2, w2⟩ : ∃ zs, IsRow .u8 W a2 len2 cap2 zs := by
    obtain ⟨fuel, hf⟩ := h2
    rcases open_ints Try.underlying22 Try.underlying5 (by kernel_rfl) hf with ⟨hcs, _⟩ | ⟨x, l, c, zs, hcs, _, hl, hm, hz, _, hcell, hwz⟩
    · simp [Value.cells] at hcs
      obtain ⟨rfl, rfl, rfl⟩ := hcs
      exact ⟨[], .inl ⟨rfl, rfl, rfl, rfl⟩⟩
    · simp [Value.cells] at hcs
      obtain ⟨rfl, rfl, rfl⟩ := hcs
      exact ⟨zs, .inr ⟨_, rfl, hl, hm, by simpa using hz, hcell, hwz⟩⟩
  clear hA0 hval0
  refine (cutLocal_walk a0 len0 cap0 z0 a1 len1 cap1 z1 a2 len2 cap2 z2 W w0 w1 w2).mono fun e W' ⟨he, bel⟩ => ?_
  subst he
  exact ⟨_, rfl, _, _, _, [], _, [], hW', trodAll_mk1 (shut_bool Try.underlying4 _), (trodAll_cons_mk (Below.trod laidOut (by kernel_rfl) (of_decide_eq_true (by kernel_rfl)) k0 bel lt0) (trodAll_cons_mk (Below.trod laidOut (by kernel_rfl) (of_decide_eq_true (by kernel_rfl)) k1 bel lt1) (trodAll_cons_mk (Below.trod laidOut (by kernel_rfl) (of_decide_eq_true (by kernel_rfl)) k2 bel lt2) trodAll_mk0))), rfl, bel.frame _, fun h => by cases h⟩

theorem cutLocal_over : Rows.cutLocalRow.holds Try.pinned (OpenSpec.ofChange Rows.cutLocalSpec) :=
  OpenClaim.holds_of_wide 5 Try.f5 rfl rfl rfl rfl rfl rfl rfl ⟨rfl, rfl, rfl, rfl, rfl⟩ rfl rfl rfl rfl rfl (by kernel_rfl) Try.func5 (by kernel_rfl)
    (of_decide_eq_true (by kernel_rfl)) (by unfold Func.isWrapper; first | (rw [if_pos (by decide +kernel)]; kernel_rfl) | (rw [if_neg (by decide +kernel)]; exact ⟨rfl, rfl⟩))
    (fun os started H enc _ => cutLocal_lifted os started H enc)

theorem cutLocal_holds : Rows.CutLocalSaid := cutLocal_over
#print axioms cutLocal_holds
end Go.Proofs.Ytjjhaohgbhekhaa
