/- BodyRanges: a range read in two parts is the range read at once. No condition. -/
import Derived.Test.YtccahhehbpahoaaRangesW
namespace Go.Proofs.Ytccahhehbpahoaa
open Go.ChangeShapes Go.WideShapes Go.ChangeAt Go.RowKit
set_option linter.unusedVariables false
theorem bodyRanges_all {w : World} (a : Option Addr) (ls : List (List Nat)) (len cap : Nat) (hlen : ls.length = len) (hgr : Grid w a ls) (a2 : Option Addr) (us : List Int) (len2 cap2 : Nat) (hlen2 : us.length = len2) (hur : URow w a2 us) (z0 z1 z2 : Int) (hw0 : (Lit.int .u16 z0).wf = true) (hw1 : (Lit.int .u16 z1).wf = true) (hw2 : (Lit.int .u16 z2).wf = true) :
    Calls Try.prog 8 #[.slice a len cap, .slice a2 len2 cap2, .agg #[.int .u16 z0, .int .u16 z1, .int .u16 z2]] w fun e w' => e = .returned (.bool true) ∧ Below w.heap.size w w' := by
  have hb0 := bounds_u16 hw0
  have hb1 := bounds_u16 hw1
  have hb2 := bounds_u16 hw2
  by_cases hgo : len ≤ 30 ∧ len ≤ len2
  · exact bodyRanges_walk a ls len cap hlen hgr a2 us len2 cap2 hlen2 hur z0 z1 z2 (by omega) (by omega) (by omega) (by omega) (by omega) (by omega) hgo.1 hgo.2
  have hb := (Below.refl w.heap.size w).alloc (Nat.le_refl _) (.cells #[.int .u16 z0, .int .u16 z1, .int .u16 z2] 65)
  have HB0 := hid hb
  have HSZ : Hid (w.heap.size ≤ (w.alloc (.cells #[.int .u16 z0, .int .u16 z1, .int .u16 z2] 65)).heap.size) := hb.size
  have HGO := hid hgo
  clear hb hgr hur hlen hlen2 hw0 hw1 hw2 hgo
  go_enter Try.func8, Try.ntmps8
  go_wp2_with fail
  generalize w.alloc (.cells #[.int .u16 z0, .int .u16 z1, .int .u16 z2] 65) = w0 at *
  obtain ⟨q, hq⟩ : ∃ q, w.heap.size = q := ⟨_, rfl⟩
  rw [hq]
  clear hq
  refine (awake_any w0).mono ?_
  rintro e w1 ⟨rfl, hb1⟩
  have HB1 := hid hb1
  clear hb1
  by_cases h1 : 30 < len
  · have g1 : (30 : Int) < (len : Int) := by omega
    go_wp2_with fail
    go_ret
    exact ⟨rfl, HB0.out.trans (HB1.out.mono HSZ.out)⟩
  · have g1 : ¬ (30 : Int) < (len : Int) := by omega
    have g2 : (len2 : Int) < (len : Int) := by
      have := HGO.out
      omega
    go_wp2_with fail
    go_ret
    exact ⟨rfl, HB0.out.trans (HB1.out.mono HSZ.out)⟩
set_option maxRecDepth 100000 in
theorem bodyRanges_lifted (os : Os) (started : os.Started) (H : Type) (enc : TypeId × Value → H) :
    ReturnsInHanded {} Try.checked os 8 .any (Rows.bodyRangesSpec.pre6 enc Try.prog Try.f8 Rows.bodyRangesRow.domain false) (Rows.bodyRangesSpec.post enc Try.prog Try.f8 false true false false) := by
  refine returnsInHanded_of_change (C := Try.checked) own started (by kernel_rfl) Try.func8
    (ChangeSpec.witness6 (enc := enc) (C := Try.checked) false ⟨#[], #[.slice none 0 0, .slice none 0 0, .agg #[.int .u16 0, .int .u16 0, .int .u16 0]], []⟩ 8 (by kernel_rfl) (by kernel_rfl) (by kernel_rfl) (by kernel_rfl)) ?_
  intro W base args ds gs before hval0 hW hcnd _
  have hval : ∀ (j : Nat) t v, Try.f8.params[j]? = some t → args[j]? = some v → Value.okWide Try.prog W .any base t v := hval0
  have hW' := hW
  obtain ⟨p, q, hA0, hV, rfl, hfz, hnd⟩ := hW
  have hA : DataW.TrodAll enc Try.prog W 0 (fun _ => true) true Try.f8.params.toList args.toList ds p := hA0
  rw [Try.params8] at hA hval
  obtain ⟨v0, vs0, d0, ds0, p0, q0, hargs, rfl, rfl, h0, r0⟩ := trodAll_cons hA
  obtain ⟨v1, vs1, d1, ds1, p1, q1, rfl, rfl, rfl, h1, r1⟩ := trodAll_cons r0
  obtain ⟨v2, vs2, d2, ds2, p2, q2, rfl, rfl, rfl, h2, r2⟩ := trodAll_cons r1
  obtain ⟨rfl, rfl, rfl⟩ := trodAll_nil r2
  obtain rfl : args = #[v0, v1, v2] := by cases args; simp_all
  obtain ⟨rfl, rfl⟩ := trodVars_none hV
  obtain ⟨a0, len0, cap0, rfl⟩ := okWide_slice Try.underlying48 (hval 0 48 v0 rfl rfl)
  have k0 := h0
  have lt0 : ∀ x ∈ p0, x.block < W.heap.size := by obtain ⟨m, hm⟩ := k0; exact DataW.trod_lt m _ _ _ hm
  obtain ⟨l0, hl0, hr0⟩ : ∃ l, l.length = len0 ∧ Grid W a0 l := by
    obtain ⟨fuel, hf⟩ := h0
    exact grid_of hf
  obtain ⟨a1, len1, cap1, rfl⟩ := okWide_slice Try.underlying64 (hval 1 64 v1 rfl rfl)
  have k1 := h1
  have lt1 : ∀ x ∈ p1, x.block < W.heap.size := by obtain ⟨m, hm⟩ := k1; exact DataW.trod_lt m _ _ _ hm
  obtain ⟨l1, hl1, hr1⟩ : ∃ l, l.length = len1 ∧ URow W a1 l := by
    obtain ⟨fuel, hf⟩ := h1
    exact urow_of hf
  obtain ⟨z20, z21, z22, rfl, w20, w21, w22⟩ := trip_of (k := .u16) Try.underlying65 (by kernel_rfl) (by kernel_rfl) Try.underlying50 (hval 2 65 v2 rfl rfl) h2
  have k2 := h2
  have lt2 : ∀ x ∈ p2, x.block < W.heap.size := by obtain ⟨m, hm⟩ := k2; exact DataW.trod_lt m _ _ _ hm
  clear hA0 hval0
  refine (bodyRanges_all a0 l0 len0 cap0 hl0 hr0 a1 l1 len1 cap1 hl1 hr1 z20 z21 z22 w20 w21 w22).mono fun e W' ⟨he, bel⟩ => ?_
  subst he
  exact ⟨_, rfl, _, _, _, [], _, [], hW', trodAll_mk1 (shut_bool Try.underlying4 _), (trodAll_cons_mk (Below.trod laidOut (by kernel_rfl) (of_decide_eq_true (by kernel_rfl)) k0 bel lt0) (trodAll_cons_mk (Below.trod laidOut (by kernel_rfl) (of_decide_eq_true (by kernel_rfl)) k1 bel lt1) (trodAll_cons_mk (Below.trod laidOut (by kernel_rfl) (of_decide_eq_true (by kernel_rfl)) k2 bel lt2) trodAll_mk0))), rfl, bel.frame _, fun h => by cases h⟩
set_option maxRecDepth 100000 in
theorem bodyRanges_over : Rows.bodyRangesRow.holds Try.pinned (OpenSpec.ofChange Rows.bodyRangesSpec) :=
  OpenClaim.holds_of_wide 8 Try.f8 rfl rfl rfl rfl rfl rfl rfl ⟨rfl, rfl, rfl, rfl, rfl⟩ rfl rfl rfl rfl rfl (by kernel_rfl) Try.func8 (by kernel_rfl)
    (of_decide_eq_true (by kernel_rfl)) (by unfold Func.isWrapper; first | (rw [if_pos (by decide +kernel)]; kernel_rfl) | (rw [if_neg (by decide +kernel)]; exact ⟨rfl, rfl⟩))
    (fun os started H enc _ => bodyRanges_lifted os started H enc)
theorem bodyRanges_holds : Rows.BodyRangesSaid := bodyRanges_over
#print axioms bodyRanges_holds
end Go.Proofs.Ytccahhehbpahoaa
