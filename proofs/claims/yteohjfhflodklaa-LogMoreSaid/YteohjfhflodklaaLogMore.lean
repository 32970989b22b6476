/- LogMore: told to any length that was one: what was appended behind is found, of its boot and later ones; of an elder boot it is not. No condition. -/
import Derived.Test.YteohjfhflodklaaMoreW
namespace Go.Proofs.Yteohjfhflodklaa
open Go.ChangeShapes Go.WideShapes Go.ChangeAt Go.RowKit Pen
set_option maxRecDepth 4000
theorem two_of {α : Type} : ∀ (l : List α), l.length = 2 → ∃ a b, l = [a, b]
  | [a, b], _ => ⟨a, b, rfl⟩
  | [], h => by simp at h
  | [_], h => by simp at h
  | _ :: _ :: _ :: _, h => by simp at h
theorem pair_of {H : Type} {enc : TypeId × Value → H} {W : World} {base : Nat} {t e : TypeId} {k : IntKind} {v : Value} {d : DataW H} {p : List MemPlace} (hu : Try.prog.underlying t = some (.array 2 e)) (hct : Try.prog.cellsOf t = 2) (hce : Try.prog.cellsOf e = 1) (hue : Try.prog.underlying e = some (.int k))
    (hok : Value.okWide Try.prog W .any base t v) (h : DataW.Trod enc Try.prog W 0 (fun _ => true) true t v d p) : ∃ x y : Int, v = .agg #[.int k x, .int k y] ∧ (Lit.int k x).wf = true ∧ (Lit.int k y).wf = true := by
  obtain ⟨cs, rfl, hsz, _⟩ : ∃ cs, v = .agg cs ∧ cs.size = Try.prog.cellsOf t ∧ Row.okWide Try.prog W .any base t cs := by
    simpa [Value.okWide, hu] using hok
  rw [hct] at hsz
  obtain ⟨l⟩ := cs
  obtain ⟨c0, c1, rfl⟩ := two_of l hsz
  obtain ⟨fuel, hf⟩ := h
  obtain ⟨xs, m, rfl, _, _, hxs, hx⟩ := DataW.trod_array hu hf
  obtain ⟨y0, y1, rfl⟩ := two_of xs hxs
  have e0 := hx 0 (by decide)
  have e1 := hx 1 (by decide)
  rw [hce] at e0 e1
  simp [Value.cells] at e0 e1
  obtain ⟨z0, q0, _, w0⟩ := DataW.trod_int hue e0
  obtain ⟨z1, q1, _, w1⟩ := DataW.trod_int hue e1
  have r0 : c0 = _ := List.head_eq_of_cons_eq q0
  have r1 : c1 = _ := List.head_eq_of_cons_eq q1
  exact ⟨z0, z1, by rw [r0, r1], w0, w1⟩
theorem logMore_all (a0 : Option Addr) (ls : List (List Nat)) (n0 c0 : Nat) (a1 : Int) (w1 : (Lit.int .u8 a1).wf = true) (x2 y2 : Int) (wx2 : (Lit.int .u8 x2).wf = true) (wy2 : (Lit.int .u8 y2).wf = true) (w : World) (hls : ls.length = n0) (hnm : n0 ≤ maxLen) (hg : Grid w a0 ls) :
    Calls Try.prog 4 #[.slice a0 n0 c0, .int .u8 a1, .agg #[.int .u8 x2, .int .u8 y2]] w fun e w' => e = .returned (.bool true) ∧ Below w.heap.size w w' := by
  have h0 := nat_u8 w1
  have h1 := nat_u8 wx2
  have h2 := nat_u8 wy2
  obtain ⟨C, rfl⟩ : ∃ C : Nat, a1 = (C : Int) := ⟨a1.toNat, by omega⟩
  obtain ⟨B0, rfl⟩ : ∃ B : Nat, x2 = (B : Int) := ⟨x2.toNat, by omega⟩
  obtain ⟨B1, rfl⟩ : ∃ B : Nat, y2 = (B : Int) := ⟨y2.toNat, by omega⟩
  exact logMore_walk a0 ls n0 c0 C B0 B1 w (by omega) (by omega) (by omega) hls hnm hg
set_option linter.unusedVariables false
set_option maxRecDepth 100000 in
theorem logMore_lifted (os : Os) (started : os.Started) (H : Type) (enc : TypeId × Value → H) :
    ReturnsInHanded {} Try.checked os 4 .any (Rows.logMoreSpec.pre6 enc Try.prog Try.f4 Rows.logMoreRow.domain false) (Rows.logMoreSpec.post enc Try.prog Try.f4 false true false false) := by
  refine returnsInHanded_of_change (C := Try.checked) own started (by kernel_rfl) Try.func4
    (ChangeSpec.witness6 (enc := enc) (C := Try.checked) false ⟨#[], #[.slice none 0 0, .int .u8 0, .agg #[.int .u8 0, .int .u8 0]], []⟩ 8 (by kernel_rfl) (by kernel_rfl) (by kernel_rfl) (by kernel_rfl)) ?_
  intro W base args ds gs before hval0 hW hcnd _
  have hval : ∀ (j : Nat) t v, Try.f4.params[j]? = some t → args[j]? = some v → Value.okWide Try.prog W .any base t v := hval0
  have hW' := hW
  obtain ⟨p, q, hA0, hV, rfl, hfz, hnd⟩ := hW
  have hA : DataW.TrodAll enc Try.prog W 0 (fun _ => true) true Try.f4.params.toList args.toList ds p := hA0
  rw [Try.params4] at hA hval
  obtain ⟨v0, vs0, d0, ds0, p0, q0, hargs, rfl, rfl, h0, r0⟩ := trodAll_cons hA
  obtain ⟨v1, vs1, d1, ds1, p1, q1, rfl, rfl, rfl, h1, r1⟩ := trodAll_cons r0
  obtain ⟨v2, vs2, d2, ds2, p2, q2, rfl, rfl, rfl, h2, r2⟩ := trodAll_cons r1
  obtain ⟨rfl, rfl, rfl⟩ := trodAll_nil r2
  obtain rfl : args = #[v0, v1, v2] := by cases args; simp_all
  obtain ⟨rfl, rfl⟩ := trodVars_none hV
  obtain ⟨a0, len0, cap0, rfl⟩ := okWide_slice Try.underlying22 (hval 0 22 v0 rfl rfl)
  have k0 := h0
  have lt0 : ∀ x ∈ p0, x.block < W.heap.size := by obtain ⟨m, hm⟩ := k0; exact DataW.trod_lt m _ _ _ hm
  obtain ⟨l0, hl0, hr0⟩ : ∃ l, l.length = len0 ∧ Grid W a0 l := by
    obtain ⟨fuel, hf⟩ := h0
    exact grid_of hf
  obtain ⟨a1, rfl, rfl, rfl, w1⟩ := open_int Try.underlying5 (hval 1 5 v1 rfl rfl) h1
  obtain ⟨x2, y2, rfl, wx2, wy2⟩ := pair_of Try.underlying48 (by kernel_rfl) (by kernel_rfl) Try.underlying5 (hval 2 48 v2 rfl rfl) h2
  have k2 := h2
  have lt2 : ∀ x ∈ p2, x.block < W.heap.size := by obtain ⟨m, hm⟩ := k2; exact DataW.trod_lt m _ _ _ hm
  have hnm0 : len0 ≤ maxLen := by
    obtain ⟨fuel, hf⟩ := h0
    exact grid_len hf
  clear hA0 hval0
  refine (logMore_all a0 l0 len0 cap0 a1 w1 x2 y2 wx2 wy2 W hl0 hnm0 hr0).mono fun e W' ⟨he, bel⟩ => ?_
  subst he
  exact ⟨_, rfl, _, _, _, [], _, [], hW', trodAll_mk1 (shut_bool Try.underlying4 _), (trodAll_cons_mk (Below.trod laidOut (by kernel_rfl) (of_decide_eq_true (by kernel_rfl)) k0 bel lt0) (trodAll_cons_mk (shut_int Try.underlying5 w1) (trodAll_cons_mk (Below.trod laidOut (by kernel_rfl) (of_decide_eq_true (by kernel_rfl)) k2 bel lt2) trodAll_mk0))), rfl, bel.frame _, fun h => by cases h⟩

theorem logMore_over : Rows.logMoreRow.holds Try.pinned (OpenSpec.ofChange Rows.logMoreSpec) :=
  OpenClaim.holds_of_wide 4 Try.f4 rfl rfl rfl rfl rfl rfl rfl ⟨rfl, rfl, rfl, rfl, rfl⟩ rfl rfl rfl rfl rfl (by kernel_rfl) Try.func4 (by kernel_rfl)
    (of_decide_eq_true (by kernel_rfl)) (by unfold Func.isWrapper; first | (rw [if_pos (by decide +kernel)]; kernel_rfl) | (rw [if_neg (by decide +kernel)]; exact ⟨rfl, rfl⟩))
    (fun os started H enc _ => logMore_lifted os started H enc)
theorem logMore_holds : Rows.LogMoreSaid := logMore_over
#print axioms logMore_holds
end Go.Proofs.Yteohjfhflodklaa
