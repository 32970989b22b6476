/- BodyTwice: the same parts written at the same place again change nothing; cut to its own size, neither. No condition. -/
import Derived.Test.YtccahhehbpahoaaTwiceW
namespace Go.Proofs.Ytccahhehbpahoaa
open Go.ChangeShapes Go.WideShapes Go.ChangeAt Go.RowKit
set_option linter.unusedVariables false
theorem bodyTwice_all {w : World} (size : Int) (a : Option Addr) (b : List Pt) (n c : Nat) (hn : b.length = n) (hr : PRow w a b) (hz : a = none → c = 0) (a2 : Option Addr) (l : List Pt) (m c2 : Nat) (hn2 : l.length = m) (hr2 : PRow w a2 l) (off : Int) (hw : (Lit.int .u16 off).wf = true) :
    Calls Try.prog 7 #[.agg #[.int .i64 size, .slice a n c], .slice a2 m c2, .int .u16 off] w fun e w' => e = .returned (.bool true) ∧ Below w.heap.size w w' := by
  have hbo := bounds_u16 hw
  by_cases h1 : 100 < n
  · have g1 : (100 : Int) < (n : Int) := by omega
    have HB0 := hid ((Below.refl w.heap.size w).alloc (Nat.le_refl _) (.cells #[.int .i64 size, .slice a n c] 24))
    have HX0 := hid (Bx.new 24 w size (.slice a n c))
    clear hn hr hn2 hr2 hw hbo
    go_enter Try.func7, Try.ntmps7
    go_wp2_with fail
    generalize w.alloc (.cells #[.int .i64 size, .slice a n c] 24) = w0 at *
    have HSZ := hid HB0.out.size
    refine (awake_any w0).mono ?_
    rintro e w1 ⟨rfl, hb1⟩
    obtain ⟨x0, x1⟩ := (HX0.out.below hb1).cells
    have HB1 := hid (HB0.out.trans (hb1.mono HSZ.out))
    clear hb1
    go_wp2_with fail
    go_ret
    exact ⟨rfl, HB1.out⟩
  by_cases h2 : 60 < m
  · have g1 : ¬ (100 : Int) < (n : Int) := by omega
    have g2 : (60 : Int) < (m : Int) := by omega
    have HB0 := hid ((Below.refl w.heap.size w).alloc (Nat.le_refl _) (.cells #[.int .i64 size, .slice a n c] 24))
    have HX0 := hid (Bx.new 24 w size (.slice a n c))
    clear hn hr hn2 hr2 hw hbo
    go_enter Try.func7, Try.ntmps7
    go_wp2_with fail
    generalize w.alloc (.cells #[.int .i64 size, .slice a n c] 24) = w0 at *
    have HSZ := hid HB0.out.size
    refine (awake_any w0).mono ?_
    rintro e w1 ⟨rfl, hb1⟩
    obtain ⟨x0, x1⟩ := (HX0.out.below hb1).cells
    have HB1 := hid (HB0.out.trans (hb1.mono HSZ.out))
    clear hb1
    go_wp2_with fail
    go_ret
    exact ⟨rfl, HB1.out⟩
  exact bodyTwice_walk size a b n c hn hr hz a2 l m c2 hn2 hr2 off (by omega) (by omega) (by omega) (by omega)
set_option maxRecDepth 100000 in
theorem bodyTwice_lifted (os : Os) (started : os.Started) (H : Type) (enc : TypeId × Value → H) :
    ReturnsInHanded {} Try.checked os 7 .any (Rows.bodyTwiceSpec.pre6 enc Try.prog Try.f7 Rows.bodyTwiceRow.domain false) (Rows.bodyTwiceSpec.post enc Try.prog Try.f7 false true false false) := by
  refine returnsInHanded_of_change (C := Try.checked) own started (by kernel_rfl) Try.func7
    (ChangeSpec.witness6 (enc := enc) (C := Try.checked) false ⟨#[], #[.agg #[.int .i64 0, .slice none 0 0], .slice none 0 0, .int .u16 0], []⟩ 8 (by kernel_rfl) (by kernel_rfl) (by kernel_rfl) (by kernel_rfl)) ?_
  intro W base args ds gs before hval0 hW hcnd _
  have hval : ∀ (j : Nat) t v, Try.f7.params[j]? = some t → args[j]? = some v → Value.okWide Try.prog W .any base t v := hval0
  have hW' := hW
  obtain ⟨p, q, hA0, hV, rfl, hfz, hnd⟩ := hW
  have hA : DataW.TrodAll enc Try.prog W 0 (fun _ => true) true Try.f7.params.toList args.toList ds p := hA0
  rw [Try.params7] at hA hval
  obtain ⟨v0, vs0, d0, ds0, p0, q0, hargs, rfl, rfl, h0, r0⟩ := trodAll_cons hA
  obtain ⟨v1, vs1, d1, ds1, p1, q1, rfl, rfl, rfl, h1, r1⟩ := trodAll_cons r0
  obtain ⟨v2, vs2, d2, ds2, p2, q2, rfl, rfl, rfl, h2, r2⟩ := trodAll_cons r1
  obtain ⟨rfl, rfl, rfl⟩ := trodAll_nil r2
  obtain rfl : args = #[v0, v1, v2] := by cases args; simp_all
  obtain ⟨rfl, rfl⟩ := trodVars_none hV
  obtain ⟨cc0, rfl, _⟩ := okWide_struct Try.underlying24 (hval 0 24 v0 rfl rfl)
  have k0 := h0
  have lt0 : ∀ x ∈ p0, x.block < W.heap.size := by obtain ⟨m, hm⟩ := k0; exact DataW.trod_lt m _ _ _ hm
  obtain ⟨size0, l0, a0, n0, c0, hv0, hl0, hr0, hz0⟩ : ∃ size b, BIn W (.agg cc0) size b := by
    obtain ⟨fuel, hf⟩ := h0
    exact body_of hf
  simp only [Value.agg.injEq] at hv0
  subst hv0
  obtain ⟨a1, len1, cap1, rfl⟩ := okWide_slice Try.underlying22 (hval 1 22 v1 rfl rfl)
  have k1 := h1
  have lt1 : ∀ x ∈ p1, x.block < W.heap.size := by obtain ⟨m, hm⟩ := k1; exact DataW.trod_lt m _ _ _ hm
  obtain ⟨l1, hl1, hr1⟩ : ∃ l, l.length = len1 ∧ PRow W a1 l := by
    obtain ⟨fuel, hf⟩ := h1
    exact prow_of hf
  obtain ⟨a2, rfl, rfl, rfl, w2⟩ := open_int Try.underlying50 (hval 2 50 v2 rfl rfl) h2
  clear hA0 hval0
  refine (bodyTwice_all size0 a0 l0 n0 c0 hl0 hr0 hz0 a1 l1 len1 cap1 hl1 hr1 a2 w2).mono fun e W' ⟨he, bel⟩ => ?_
  subst he
  exact ⟨_, rfl, _, _, _, [], _, [], hW', trodAll_mk1 (shut_bool Try.underlying4 _), (trodAll_cons_mk (Below.trod laidOut (by kernel_rfl) (of_decide_eq_true (by kernel_rfl)) k0 bel lt0) (trodAll_cons_mk (Below.trod laidOut (by kernel_rfl) (of_decide_eq_true (by kernel_rfl)) k1 bel lt1) (trodAll_cons_mk (shut_int Try.underlying50 w2) trodAll_mk0))), rfl, bel.frame _, fun h => by cases h⟩
set_option maxRecDepth 100000 in
theorem bodyTwice_over : Rows.bodyTwiceRow.holds Try.pinned (OpenSpec.ofChange Rows.bodyTwiceSpec) :=
  OpenClaim.holds_of_wide 7 Try.f7 rfl rfl rfl rfl rfl rfl rfl ⟨rfl, rfl, rfl, rfl, rfl⟩ rfl rfl rfl rfl rfl (by kernel_rfl) Try.func7 (by kernel_rfl)
    (of_decide_eq_true (by kernel_rfl)) (by unfold Func.isWrapper; first | (rw [if_pos (by decide +kernel)]; kernel_rfl) | (rw [if_neg (by decide +kernel)]; exact ⟨rfl, rfl⟩))
    (fun os started H enc _ => bodyTwice_lifted os started H enc)
theorem bodyTwice_holds : Rows.BodyTwiceSaid := bodyTwice_over
#print axioms bodyTwice_holds
end Go.Proofs.Ytccahhehbpahoaa
