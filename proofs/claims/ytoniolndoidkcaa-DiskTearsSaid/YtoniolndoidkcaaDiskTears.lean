/- DiskTears: of a torn sector the first bytes are new, the others old, wherever it tears; for every input. -/
import Derived.Test.YtoniolndoidkcaaMore
import Derived.Deep.RegionHeld
namespace Go.Proofs.Ytoniolndoidkcaa
open Go.ChangeShapes Go.WideShapes Go.ChangeAt Go.RowKit
set_option maxHeartbeats 4000000 in
theorem diskTears_walk (w : World) (a0 : Option Addr) (n0 cap0 : Nat) (l0 : List Nat) (hr0 : Row w a0 l0) (hl0 : l0.length = n0) (a1 : Option Addr) (n1 cap1 : Nat) (l1 : List Nat) (hr1 : Row w a1 l1) (hl1 : l1.length = n1) (c : Nat) (hc : c < 256) :
    Calls Try.prog 6 #[.slice a0 n0 cap0, .slice a1 n1 cap1, .int .u8 (c : Int)] w fun e w' => e = .returned (.bool true) ∧ Below w.heap.size w w' := by
  have HR0 := hid hr0
  have HR1 := hid hr1
  have HL0 := hid hl0
  have HL1 := hid hl1
  have HF0 := hid (bytes_full hr0.1)
  have HF1 := hid (bytes_full hr1.1)
  clear hr0 hr1 hl0 hl1
  go_enter Try.func6, Try.ntmps6
  go_wp2_with fail
  refine (awake_any w).mono ?_
  rintro e w2 ⟨rfl, hb2⟩
  have HBw2 := hid hb2
  clear hb2
  by_cases h100 : 100 < n0
  · have t0 : (100 : Int) < (n0 : Int) := by omega
    clear h100
    go_wp2_with fail
    go_ret
    exact ⟨rfl, HBw2.out⟩
  have t0 : ¬ (100 : Int) < (n0 : Int) := by omega
  by_cases h101 : 100 < n1
  · have t1 : (100 : Int) < (n1 : Int) := by omega
    clear h101
    go_wp2_with fail
    go_ret
    exact ⟨rfl, HBw2.out⟩
  have t1 : ¬ (100 : Int) < (n1 : Int) := by omega
  go_wp2_with fail
  refine (fresh_one w2).mono ?_
  rintro e w3 ⟨q, rfl, p, hd, hb, hq, hp⟩
  have HBw3 := hid (HBw2.out.trans (hb.mono HBw2.out.size))
  have HDw3 := hid hd
  have HQ := hid (Nat.le_trans HBw2.out.size hq)
  have HP := hid (Nat.le_trans HBw2.out.size hp)
  clear hd hb hq hp HBw2
  go_wp2_with fail
  refine (full_any w3 a0 l0 n0 _ (HR0.out.below HBw3.out) HL0.out (by omega)).mono ?_
  rintro e w4 ⟨g, rfl, hg, hb, -⟩
  have HBw4 := hid (HBw3.out.trans (hb.mono HBw3.out.size))
  have HDw4 := hid (HDw3.out.below hb)
  have HG := hid hg
  clear hg hb
  go_wp2_with fail
  refine (write0 HDw4.out (by decide) _ (full l0) HG.out.row HF0.out.1 64).mono ?_
  rintro e w5 ⟨rfl, hd, ho⟩
  have HBw5 := hid (HBw4.out.trans (ho.low HQ.out HP.out HBw4.out.size))
  rw [tear1 _ HF0.out.1] at hd ⊢
  have HDw5 := hid hd
  clear hd ho HDw3 HBw3 HDw4 HBw4 HG
  go_wp2_with fail
  refine (flush_any HDw5.out (by simp)).mono ?_
  rintro e w6 ⟨rfl, hd, ho⟩
  have HBw6 := hid (HBw5.out.trans (ho.low HQ.out HP.out HBw5.out.size))
  rw [tear2] at hd ⊢
  have HDw6 := hid hd
  clear hd ho HDw5 HBw5
  go_wp2_with fail
  refine (full_any w6 a1 l1 n1 _ (HR1.out.below HBw6.out) HL1.out (by omega)).mono ?_
  rintro e w7 ⟨g, rfl, hg, hb, -⟩
  have HBw7 := hid (HBw6.out.trans (hb.mono HBw6.out.size))
  have HDw7 := hid (HDw6.out.below hb)
  have HG := hid hg
  clear hg hb
  go_wp2_with fail
  refine (write0 HDw7.out (by simp) _ (full l1) HG.out.row HF1.out.1 64).mono ?_
  rintro e w8 ⟨rfl, hd, ho⟩
  have HBw8 := hid (HBw7.out.trans (ho.low HQ.out HP.out HBw7.out.size))
  rw [tear3 _ _ HF1.out.1] at hd ⊢
  have HDw8 := hid hd
  clear hd ho HDw6 HBw6 HDw7 HBw7 HG
  go_wp2_with fail
  refine (crash_one HDw8.out c hc).mono ?_
  rintro e w9 ⟨x, rfl, xp, hx, hb, -, -⟩
  have HBw9 := hid (HBw8.out.trans (hb.mono HBw8.out.size))
  have HX := hid hx
  clear hx hb HDw8 HBw8
  go_wp2_with fail
  refine (read0 HX.out rfl (by simp [Dk.crash, crashL, torn])).mono ?_
  rintro e w10 ⟨g3, rfl, hg, hb, -⟩
  have HBw10 := hid (HBw9.out.trans (hb.mono HBw9.out.size))
  rw [tear4, stay_one] at hg
  have HG := hid hg
  clear hg hb HX HBw9
  have hand := and3 c hc
  have HC := hid hc
  have hr0 := hid (HR0.out.below HBw10.out)
  have hr1 := hid (HR1.out.below HBw10.out)
  have hF0 := fun W hW => full_in (cap := cap0) hr0.out HL0.out (by omega) W hW
  have hF1 := fun W hW => full_in (cap := cap1) hr1.out HL1.out (by omega) W hW
  have hq4 : Int.tdiv (c : Int) 4 = ((c / 4 : Nat) : Int) := by rw [Int.tdiv_eq_ediv_of_nonneg (by omega)]; simp
  have hd4 : (c : Int) / 4 = ((c / 4 : Nat) : Int) := by simp
  have HQ4 : Hid (c / 4 < 64) := by show _ < _; omega
  have HLF0 := hid HF0.out.1
  have HLF1 := hid HF1.out.1
  generalize hr4 : c % 4 = r at *
  generalize hqq : c / 4 = Q at *
  clear hc hr4 hqq
  generalize full l0 = F0 at *
  generalize full l1 = F1 at *
  by_cases h1 : r = 1
  · subst h1
    rw [if_pos rfl] at HG
    obtain ⟨S1, hS1⟩ : ∃ S1, strOf (F1.take 64) = S1 := ⟨_, rfl⟩
    obtain ⟨S0, hS0⟩ : ∃ S0, strOf (F0.drop 64) = S0 := ⟨_, rfl⟩
    have hmix : strOf (mix F0 F1 64) = S1 ++ S0 := by rw [← hS1, ← hS0, strOf_app]; rfl
    have hml : (mix F0 F1 64).length = 64 := (bytes_mix HF0.out HF1.out 64 (by decide)).1
    have hSb := str_all HG.out 64 64 hml
    rw [hmix] at hSb
    have hSA : ∀ w' g, Buf w' g F1 → ∀ W, Below w'.heap.size w' W → (convert 23 9 (.slice (some ⟨g, 0, none⟩) 64 64)).run Try.prog W = .ok (.string S1) W := fun w' g h => by rw [← hS1]; exact str_take h 64 64 (by rw [HLF1.out]; decide)
    have hSB : ∀ w' g, Buf w' g F0 → ∀ W, Below w'.heap.size w' W → (convert 23 9 (.slice (some ⟨g, 0, none⟩) 0 0)).run Try.prog W = .ok (.string S0) W := fun w' g h W hW => by
      rw [← hS0, List.drop_of_length_le (by rw [HLF0.out]; decide)]
      exact str_any W _ [] 0 0 rfl (row_nil _ _)
    have HSB := hid hSb
    have hz1 : (S1.size : Int) + (S0.size : Int) ≤ 9223372036854775807 := by
      have e1 : S1.size ≤ 64 := by have h1 := HLF1.out; rw [← hS1, strOf_size, List.length_take]; omega
      have e0 : S0.size ≤ 64 := by have h1 := HLF0.out; rw [← hS0, strOf_size, List.length_drop]; omega
      omega
    clear hmix hml hSb hS1 hS0
    go_wp2_with fail
    go_region_held (fun W => Below w10.heap.size w10 W) (first | assumption | (refine Below.drew ?_; exact Below.refl _ _)) (first
      | (go_at_call_of 13 a1; refine (hF1 _ ?_).mono ?_; assumption; rintro e w11 ⟨g1, rfl, hb1, hb2, hb3, hg1⟩; replace hg1 := hSA w11 g1 hg1)
      | (go_at_call_of 13 a0; refine (hF0 _ ?_).mono ?_; assumption; rintro e w12 ⟨g2, rfl, hc1, hc2, hc3, hg2⟩; replace hg2 := hSB w12 g2 hg2))
    all_goals (
      have hSb := HSB.out _ hc1
      clear hg1 hg2 hb1 hb2 hb3 hc2 hc3
      have HBZ := hid (HBw10.out.trans (hc1.mono HBw10.out.size))
      clear hc1
      go_wp2_with fail
      go_ret
      exact ⟨rfl, HBZ.out⟩)
  rw [if_neg h1] at HG
  have u1 : ((r : Int) == 1) = false := by simp; omega
  have u1' : ¬ ((r : Int) = 1) := by omega
  by_cases h3 : r = 3
  · subst h3
    rw [if_pos rfl] at HG
    clear h1
    obtain ⟨S1, hS1⟩ : ∃ S1, strOf (F1.take Q) = S1 := ⟨_, rfl⟩
    obtain ⟨S0, hS0⟩ : ∃ S0, strOf (F0.drop Q) = S0 := ⟨_, rfl⟩
    have hmix : strOf (mix F0 F1 Q) = S1 ++ S0 := by rw [← hS1, ← hS0, strOf_app]; rfl
    have hml : (mix F0 F1 Q).length = 64 := (bytes_mix HF0.out HF1.out Q (Nat.le_of_lt HQ4.out)).1
    have hSb := str_all HG.out 64 64 hml
    rw [hmix] at hSb
    have hSA : ∀ w' g, Buf w' g F1 → ∀ W, Below w'.heap.size w' W → (convert 23 9 (.slice (some ⟨g, 0, none⟩) Q 64)).run Try.prog W = .ok (.string S1) W := fun w' g h => by rw [← hS1]; exact str_take h Q 64 (by rw [HLF1.out]; exact Nat.le_of_lt HQ4.out)
    have hSB : ∀ w' g, Buf w' g F0 → ∀ W, Below w'.heap.size w' W → (convert 23 9 (.slice (some ⟨g, Q, none⟩) (64 - Q) (64 - Q))).run Try.prog W = .ok (.string S0) W := fun w' g h => by rw [← hS0]; exact str_drop h Q _ _ (by rw [HLF0.out]; exact HQ4.out) (by rw [HLF0.out])
    have HSB := hid hSb
    have hz1 : (S1.size : Int) + (S0.size : Int) ≤ 9223372036854775807 := by
      have e1 : S1.size ≤ 64 := by have h1 := HLF1.out; rw [← hS1, strOf_size, List.length_take]; omega
      have e0 : S0.size ≤ 64 := by have h1 := HLF0.out; rw [← hS0, strOf_size, List.length_drop]; omega
      omega
    clear hmix hml hSb hS1 hS0
    have hQ4 := HQ4.out
    have hQi : (Q : Int) ≤ 64 := by omega
    have hQ1 : ¬ (64 = Q) := by omega
    go_wp2_with fail
    go_region_held (fun W => Below w10.heap.size w10 W) (first | assumption | (refine Below.drew ?_; exact Below.refl _ _)) (first
      | (go_at_call_of 13 a1; refine (hF1 _ ?_).mono ?_; assumption; rintro e w11 ⟨g1, rfl, hb1, hb2, hb3, hg1⟩; replace hg1 := hSA w11 g1 hg1)
      | (go_at_call_of 13 a0; refine (hF0 _ ?_).mono ?_; assumption; rintro e w12 ⟨g2, rfl, hc1, hc2, hc3, hg2⟩; replace hg2 := hSB w12 g2 hg2))
    all_goals (
      have hSb := HSB.out _ hc1
      clear hg1 hg2 hb1 hb2 hb3 hc2 hc3
      have HBZ := hid (HBw10.out.trans (hc1.mono HBw10.out.size))
      clear hc1
      go_wp2_with fail
      go_ret
      exact ⟨rfl, HBZ.out⟩)
  · rw [if_neg h3] at HG
    have u3 : ((r : Int) == 3) = false := by simp; omega
    have u3' : ¬ ((r : Int) = 3) := by omega
    clear h1 h3
    obtain ⟨S1, hS1⟩ : ∃ S1, strOf (F1.take 0) = S1 := ⟨_, rfl⟩
    obtain ⟨S0, hS0⟩ : ∃ S0, strOf (F0.drop 0) = S0 := ⟨_, rfl⟩
    have hmix : strOf (mix F0 F1 0) = S1 ++ S0 := by rw [← hS1, ← hS0, strOf_app]; rfl
    have hml : (mix F0 F1 0).length = 64 := (bytes_mix HF0.out HF1.out 0 (by decide)).1
    have hSb := str_all HG.out 64 64 hml
    rw [hmix] at hSb
    have hSA : ∀ w' g, Buf w' g F1 → ∀ W, Below w'.heap.size w' W → (convert 23 9 (.slice (some ⟨g, 0, none⟩) 0 64)).run Try.prog W = .ok (.string S1) W := fun w' g h => by rw [← hS1]; exact str_take h 0 64 (by rw [HLF1.out]; decide)
    have hSB : ∀ w' g, Buf w' g F0 → ∀ W, Below w'.heap.size w' W → (convert 23 9 (.slice (some ⟨g, 0, none⟩) 64 64)).run Try.prog W = .ok (.string S0) W := fun w' g h => by rw [← hS0]; exact str_all h 64 64 HLF0.out
    have HSB := hid hSb
    have hz1 : (S1.size : Int) + (S0.size : Int) ≤ 9223372036854775807 := by
      have e1 : S1.size ≤ 64 := by have h1 := HLF1.out; rw [← hS1, strOf_size, List.length_take]; omega
      have e0 : S0.size ≤ 64 := by have h1 := HLF0.out; rw [← hS0, strOf_size, List.length_drop]; omega
      omega
    clear hmix hml hSb hS1 hS0
    go_wp2_with fail
    go_region_held (fun W => Below w10.heap.size w10 W) (first | assumption | (refine Below.drew ?_; exact Below.refl _ _)) (first
      | (go_at_call_of 13 a1; refine (hF1 _ ?_).mono ?_; assumption; rintro e w11 ⟨g1, rfl, hb1, hb2, hb3, hg1⟩; replace hg1 := hSA w11 g1 hg1)
      | (go_at_call_of 13 a0; refine (hF0 _ ?_).mono ?_; assumption; rintro e w12 ⟨g2, rfl, hc1, hc2, hc3, hg2⟩; replace hg2 := hSB w12 g2 hg2))
    all_goals (
      have hSb := HSB.out _ hc1
      clear hg1 hg2 hb1 hb2 hb3 hc2 hc3
      have HBZ := hid (HBw10.out.trans (hc1.mono HBw10.out.size))
      clear hc1
      go_wp2_with fail
      go_ret
      exact ⟨rfl, HBZ.out⟩)
set_option linter.unusedVariables false
theorem diskTears_all (a0 : Option Addr) (len0 cap0 : Nat) (z0 : List Int) (a1 : Option Addr) (len1 cap1 : Nat) (z1 : List Int) (a2 : Int) (w : World) (w0 : IsRow .u8 w a0 len0 cap0 z0) (w1 : IsRow .u8 w a1 len1 cap1 z1) (w2 : (Lit.int .u8 a2).wf = true) :
    Calls Try.prog 6 #[.slice a0 len0 cap0, .slice a1 len1 cap1, .int .u8 a2] w fun e w' => e = .returned (.bool true) ∧ Below w.heap.size w w' := by
  obtain ⟨l0, hl0, hr0, _, _⟩ := bytes_of w0
  obtain ⟨l1, hl1, hr1, _, _⟩ := bytes_of w1
  obtain ⟨c, rfl, hc⟩ : ∃ c : Nat, a2 = (c : Int) ∧ c < 256 := ⟨a2.toNat, by have := nat_u8 w2; omega, by have := nat_u8 w2; omega⟩
  exact diskTears_walk w a0 len0 cap0 l0 hr0 hl0 a1 len1 cap1 l1 hr1 hl1 c hc

set_option maxRecDepth 100000 in
theorem diskTears_lifted (os : Os) (started : os.Started) (H : Type) (enc : TypeId × Value → H) :
    ReturnsInHanded {} Try.checked os 6 .any (Rows.diskTearsSpec.pre6 enc Try.prog Try.f6 Rows.diskTearsRow.domain false) (Rows.diskTearsSpec.post enc Try.prog Try.f6 false true false false) := by
  refine returnsInHanded_of_change (C := Try.checked) own started (by kernel_rfl) Try.func6
    (ChangeSpec.witness6 (enc := enc) (C := Try.checked) false ⟨#[], #[.slice none 0 0, .slice none 0 0, .int .u8 0], []⟩ 8 (by kernel_rfl) (by kernel_rfl) (by kernel_rfl) (by kernel_rfl)) ?_
  intro W base args ds gs before hval0 hW hcnd _
  have hval : ∀ (j : Nat) t v, Try.f6.params[j]? = some t → args[j]? = some v → Value.okWide Try.prog W .any base t v := hval0
  have hW' := hW
  obtain ⟨p, q, hA0, hV, rfl, hfz, hnd⟩ := hW
  have hA : DataW.TrodAll enc Try.prog W 0 (fun _ => true) true Try.f6.params.toList args.toList ds p := hA0
  rw [Try.params6] at hA hval
  obtain ⟨v0, vs0, d0, ds0, p0, q0, hargs, rfl, rfl, h0, r0⟩ := trodAll_cons hA
  obtain ⟨v1, vs1, d1, ds1, p1, q1, rfl, rfl, rfl, h1, r1⟩ := trodAll_cons r0
  obtain ⟨v2, vs2, d2, ds2, p2, q2, rfl, rfl, rfl, h2, r2⟩ := trodAll_cons r1
  obtain ⟨rfl, rfl, rfl⟩ := trodAll_nil r2
  obtain rfl : args = #[v0, v1, v2] := by cases args; simp_all
  obtain ⟨rfl, rfl⟩ := trodVars_none hV
  obtain ⟨a0, len0, cap0, rfl⟩ := okWide_slice Try.underlying23 (hval 0 23 v0 rfl rfl)
  have k0 := h0
  have lt0 : ∀ x ∈ p0, x.block < W.heap.size := by obtain ⟨m, hm⟩ := k0; exact DataW.trod_lt m _ _ _ hm
  obtain ⟨z0, w0⟩ : ∃ zs, IsRow .u8 W a0 len0 cap0 zs := by
    obtain ⟨fuel, hf⟩ := h0
    rcases open_ints Try.underlying23 Try.underlying5 (by kernel_rfl) hf with ⟨hcs, _⟩ | ⟨x, l, c, zs, hcs, _, hl, hm, hz, _, hcell, hwz⟩
    · simp [Value.cells] at hcs
      obtain ⟨rfl, rfl, rfl⟩ := hcs
      exact ⟨[], .inl ⟨rfl, rfl, rfl, rfl⟩⟩
    · simp [Value.cells] at hcs
      obtain ⟨rfl, rfl, rfl⟩ := hcs
      exact ⟨zs, .inr ⟨_, rfl, hl, hm, by simpa using hz, hcell, hwz⟩⟩
  obtain ⟨a1, len1, cap1, rfl⟩ := okWide_slice Try.underlying23 (hval 1 23 v1 rfl rfl)
  have k1 := h1
  have lt1 : ∀ x ∈ p1, x.block < W.heap.size := by obtain ⟨m, hm⟩ := k1; exact DataW.trod_lt m _ _ _ hm
  obtain ⟨z1, w1⟩ : ∃ zs, IsRow .u8 W a1 len1 cap1 zs := by
    obtain ⟨fuel, hf⟩ := h1
    rcases open_ints Try.underlying23 Try.underlying5 (by kernel_rfl) hf with ⟨hcs, _⟩ | ⟨x, l, c, zs, hcs, _, hl, hm, hz, _, hcell, hwz⟩
    · simp [Value.cells] at hcs
      obtain ⟨rfl, rfl, rfl⟩ := hcs
      exact ⟨[], .inl ⟨rfl, rfl, rfl, rfl⟩⟩
    · simp [Value.cells] at hcs
      obtain ⟨rfl, rfl, rfl⟩ := hcs
      exact ⟨zs, .inr ⟨_, rfl, hl, hm, by simpa using hz, hcell, hwz⟩⟩
  obtain ⟨a2, rfl, rfl, rfl, w2⟩ := open_int Try.underlying5 (hval 2 5 v2 rfl rfl) h2
  clear hA0 hval0
  refine (diskTears_all a0 len0 cap0 z0 a1 len1 cap1 z1 a2 W w0 w1 w2).mono fun e W' ⟨he, bel⟩ => ?_
  subst he
  exact ⟨_, rfl, _, _, _, [], _, [], hW', trodAll_mk1 (shut_bool Try.underlying4 _), (trodAll_cons_mk (Below.trod laidOut (by kernel_rfl) (of_decide_eq_true (by kernel_rfl)) k0 bel lt0) (trodAll_cons_mk (Below.trod laidOut (by kernel_rfl) (of_decide_eq_true (by kernel_rfl)) k1 bel lt1) (trodAll_cons_mk (shut_int Try.underlying5 w2) trodAll_mk0))), rfl, bel.frame _, fun h => by cases h⟩

theorem diskTears_over : Rows.diskTearsRow.holds Try.pinned (OpenSpec.ofChange Rows.diskTearsSpec) :=
  OpenClaim.holds_of_wide 6 Try.f6 rfl rfl rfl rfl rfl rfl rfl ⟨rfl, rfl, rfl, rfl, rfl⟩ rfl rfl rfl rfl rfl (by kernel_rfl) Try.func6 (by kernel_rfl)
    (of_decide_eq_true (by kernel_rfl)) (by unfold Func.isWrapper; first | (rw [if_pos (by decide +kernel)]; kernel_rfl) | (rw [if_neg (by decide +kernel)]; exact ⟨rfl, rfl⟩))
    (fun os started H enc _ => diskTears_lifted os started H enc)

theorem diskTears_holds : Rows.DiskTearsSaid := diskTears_over
#print axioms diskTears_holds
end Go.Proofs.Ytoniolndoidkcaa
