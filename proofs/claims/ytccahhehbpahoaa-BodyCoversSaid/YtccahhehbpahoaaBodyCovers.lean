/- BodyCovers: written over, nothing of what lay there is left; cut and made longer, nothing comes back. No condition. -/
import Derived.Test.YtccahhehbpahoaaCoversW
import Derived.Test.YtccahhehbpahoaaCome
namespace Go.Proofs.Ytccahhehbpahoaa
open Go.ChangeShapes Go.WideShapes Go.ChangeAt Go.RowKit
set_option linter.unusedVariables false
theorem bodyCovers_all {w : World} (size : Int) (a : Option Addr) (b : List Pt) (n c : Nat) (hn : b.length = n) (hr : PRow w a b) (hz : a = none → c = 0) (o s : Int) (hwo : (Lit.int .u16 o).wf = true) (hws : (Lit.int .u16 s).wf = true) (u : Int) (hwu : (Lit.int .u8 u).wf = true) :
    Calls Try.prog 6 #[.agg #[.int .i64 size, .slice a n c], .agg #[.int .u16 o, .int .u16 s], .int .u8 u] w fun e w' => e = .returned (.bool true) ∧ Below w.heap.size w w' := by
  have hbo := bounds_u16 hwo
  have hbs := bounds_u16 hws
  have hbu := bounds_u8 hwu
  by_cases hgo : n ≤ 100 ∧ mayB size b = true
  · exact bodyCovers_walk size a b n c hn hr hz o s u (by omega) (by omega) (by omega) (by omega) (by omega) (by omega) hgo.1 hgo.2
  have hb0 := ((Below.refl w.heap.size w).alloc (Nat.le_refl _) (.cells #[.int .i64 size, .slice a n c] 24)).alloc (by simp) (.cells #[.int .u16 o, .int .u16 s] 51)
  have HX0 := hid (Bx.below (Bx.new 24 w size (.slice a n c)) ((Below.refl _ _).alloc (Nat.le_refl _) (.cells #[.int .u16 o, .int .u16 s] 51)))
  have HO0 : Hid (((w.alloc (.cells #[.int .i64 size, .slice a n c] 24)).alloc (.cells #[.int .u16 o, .int .u16 s] 51)).heap[w.heap.size + 1]? = some (.cells #[.int .u16 o, .int .u16 s] 51 (0, 0))) := by
    have := heap_alloc_new (w.alloc (.cells #[.int .i64 size, .slice a n c] 24)) (.cells #[.int .u16 o, .int .u16 s] 51)
    rw [show (w.alloc (.cells #[.int .i64 size, .slice a n c] 24)).heap.size = w.heap.size + 1 by simp] at this
    exact this
  have HB0 := hid hb0
  have HR := hid (hr.below hb0)
  have HN := hid hn
  have HGO := hid hgo
  have HSZ : Hid (w.heap.size ≤ ((w.alloc (.cells #[.int .i64 size, .slice a n c] 24)).alloc (.cells #[.int .u16 o, .int .u16 s] 51)).heap.size) := hb0.size
  clear hb0 hr hn hz hgo hwo hws hwu hbo hbs hbu
  go_enter Try.func6, Try.ntmps6
  go_wp2_with fail
  generalize (w.alloc (.cells #[.int .i64 size, .slice a n c] 24)).alloc (.cells #[.int .u16 o, .int .u16 s] 51) = w0 at *
  obtain ⟨q, hq⟩ : ∃ q, w.heap.size = q := ⟨_, rfl⟩
  rw [hq] at HX0 HO0 ⊢
  clear hq
  refine (awake_any w0).mono ?_
  rintro e w1 ⟨rfl, hb1⟩
  have HB1 := hid hb1
  have HX1 := hid (HX0.out.below hb1)
  have ho1' := (hb1.block (q + 1) (lt_of_some HO0.out)).trans HO0.out
  obtain ⟨x0, x1⟩ := (HX0.out.below hb1).cells
  have z0 : w1.cell? ⟨q + 1, 0, none⟩ = some (.int .u16 o) := by rw [cell_of_row w1 _ 0 _ 51 (0, 0) ho1']; rfl
  have z1 : w1.cell? ⟨q + 1, 1, none⟩ = some (.int .u16 s) := by rw [cell_of_row w1 _ 1 _ 51 (0, 0) ho1']; rfl
  clear hb1 ho1'
  go_wp2_with fail
  go_quiet (fail)
  have HBQ : Hid (Below w0.heap.size w0 (w1.drewN nq)) := ⟨HB1.out.os, HB1.out.tape, HB1.out.output, HB1.out.size, HB1.out.block⟩
  have HXQ : Hid (Bx 24 (w1.drewN nq) q size (.slice a n c)) := HX1.out
  clear x0 x1 z0 z1
  obtain ⟨x0, x1⟩ := HXQ.out.cells
  clear HB1 HX1
  generalize w1.drewN nq = w2 at *
  by_cases h1 : 100 < n
  · have g1 : (100 : Int) < (n : Int) := by omega
    go_wp2_with fail
    go_ret
    exact ⟨rfl, HB0.out.trans (HBQ.out.mono HSZ.out)⟩
  · have g1 : ¬ (100 : Int) < (n : Int) := by omega
    have hmay : mayB size b = false := by
      cases e : mayB size b with
      | false => rfl
      | true => exact absurd ⟨by omega, e⟩ HGO.out
    have km := bodyMay_any (w := w2) size a b n c HN.out (HR.out.below HBQ.out) (by omega)
    rw [hmay] at km
    go_wp2_with fail
    refine km.mono ?_
    rintro e w3 ⟨rfl, hb3⟩
    have HB3 := hid (HBQ.out.trans (hb3.mono HBQ.out.size))
    clear hb3 km x0 x1
    go_wp2_with fail
    go_ret
    exact ⟨rfl, HB0.out.trans (HB3.out.mono HSZ.out)⟩
set_option maxRecDepth 100000 in
theorem bodyCovers_lifted (os : Os) (started : os.Started) (H : Type) (enc : TypeId × Value → H) :
    ReturnsInHanded {} Try.checked os 6 .any (Rows.bodyCoversSpec.pre6 enc Try.prog Try.f6 Rows.bodyCoversRow.domain false) (Rows.bodyCoversSpec.post enc Try.prog Try.f6 false true false false) := by
  refine returnsInHanded_of_change (C := Try.checked) own started (by kernel_rfl) Try.func6
    (ChangeSpec.witness6 (enc := enc) (C := Try.checked) false ⟨#[], #[.agg #[.int .i64 0, .slice none 0 0], .agg #[.int .u16 0, .int .u16 0], .int .u8 0], []⟩ 8 (by kernel_rfl) (by kernel_rfl) (by kernel_rfl) (by kernel_rfl)) ?_
  intro W base args ds gs before hval0 hW hcnd _
  have hval : ∀ (j : Nat) t v, Try.f6.params[j]? = some t → args[j]? = some v → Value.okWide Try.prog W .any base t v := hval0
  have hW' := hW
  obtain ⟨p, q, hA0, hV, rfl, hfz, hnd⟩ := hW
  have hA : DataW.TrodAll enc Try.prog W 0 (fun _ => true) true Try.f6.params.toList args.toList ds p := hA0
  rw [Try.params6] at hA hval
  obtain ⟨v0, vs0, d0, ds0, p0, q0, hargs, rfl, rfl, h0, r0⟩ := trodAll_cons hA
  obtain ⟨v1, vs1, d1, ds1, p1, q1, rfl, rfl, rfl, h1, r1⟩ := trodAll_cons r0
  obtain ⟨v2, vs2, d2, ds2, p2, q2, rfl, rfl, rfl, h2, r2⟩ := trodAll_cons r1
  obtain ⟨rfl, rfl, rfl⟩ := trodAll_nil r2
  obtain rfl : args = #[v0, v1, v2] := by cases args; simp_all
  obtain ⟨rfl, rfl⟩ := trodVars_none hV
  obtain ⟨cc0, rfl, _⟩ := okWide_struct Try.underlying24 (hval 0 24 v0 rfl rfl)
  have k0 := h0
  have lt0 : ∀ x ∈ p0, x.block < W.heap.size := by obtain ⟨m, hm⟩ := k0; exact DataW.trod_lt m _ _ _ hm
  obtain ⟨size0, l0, a0, n0, c0, hv0, hl0, hr0, hz0⟩ : ∃ size b, BIn W (.agg cc0) size b := by
    obtain ⟨fuel, hf⟩ := h0
    exact body_of hf
  simp only [Value.agg.injEq] at hv0
  subst hv0
  obtain ⟨z10, z11, rfl, w10, w11⟩ := pair_of (k := .u16) Try.underlying51 (by kernel_rfl) (by kernel_rfl) Try.underlying50 (hval 1 51 v1 rfl rfl) h1
  have k1 := h1
  have lt1 : ∀ x ∈ p1, x.block < W.heap.size := by obtain ⟨m, hm⟩ := k1; exact DataW.trod_lt m _ _ _ hm
  obtain ⟨a2, rfl, rfl, rfl, w2⟩ := open_int Try.underlying5 (hval 2 5 v2 rfl rfl) h2
  clear hA0 hval0
  refine (bodyCovers_all size0 a0 l0 n0 c0 hl0 hr0 hz0 z10 z11 w10 w11 a2 w2).mono fun e W' ⟨he, bel⟩ => ?_
  subst he
  exact ⟨_, rfl, _, _, _, [], _, [], hW', trodAll_mk1 (shut_bool Try.underlying4 _), (trodAll_cons_mk (Below.trod laidOut (by kernel_rfl) (of_decide_eq_true (by kernel_rfl)) k0 bel lt0) (trodAll_cons_mk (Below.trod laidOut (by kernel_rfl) (of_decide_eq_true (by kernel_rfl)) k1 bel lt1) (trodAll_cons_mk (shut_int Try.underlying5 w2) trodAll_mk0))), rfl, bel.frame _, fun h => by cases h⟩
set_option maxRecDepth 100000 in
theorem bodyCovers_over : Rows.bodyCoversRow.holds Try.pinned (OpenSpec.ofChange Rows.bodyCoversSpec) :=
  OpenClaim.holds_of_wide 6 Try.f6 rfl rfl rfl rfl rfl rfl rfl ⟨rfl, rfl, rfl, rfl, rfl⟩ rfl rfl rfl rfl rfl (by kernel_rfl) Try.func6 (by kernel_rfl)
    (of_decide_eq_true (by kernel_rfl)) (by unfold Func.isWrapper; first | (rw [if_pos (by decide +kernel)]; kernel_rfl) | (rw [if_neg (by decide +kernel)]; exact ⟨rfl, rfl⟩))
    (fun os started H enc _ => bodyCovers_lifted os started H enc)
theorem bodyCovers_holds : Rows.BodyCoversSaid := bodyCovers_over
#print axioms bodyCovers_holds
end Go.Proofs.Ytccahhehbpahoaa
