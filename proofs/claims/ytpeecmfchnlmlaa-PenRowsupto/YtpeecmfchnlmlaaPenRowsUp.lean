/- Proved: the law 'PenRows' in its second form: texts and numbers one behind another, in whatever order, are read in that order; true, and what came in reads as it did, where the arguments hold together at most 1048576 values and letters. -/
import Derived.Test.YtpeecmfchnlmlaaPenRows
import Derived.SliceStrings
import Derived.Deep.Grids
import Derived.JoinedCond
namespace Go.Proofs.Ytpeecmfchnlmlaa
open Go.ChangeShapes Go.WideShapes Go.ChangeAt Go.RowKit Pen
set_option linter.unusedVariables false
theorem bulk_append {H : Type} (l r : List (DataW H)) : Rows.uptoBulkAll (l ++ r) = Rows.uptoBulkAll l + Rows.uptoBulkAll r := by
  induction l with
  | nil => simp [Rows.uptoBulkAll]
  | cons x l ih => simp only [List.cons_append, Rows.uptoBulkAll, ih]; omega
theorem pres_bulk {H : Type} (ss : List ByteArray) (n : Nat) : pres (fun i => lst (ss.getD i ByteArray.empty)) n ≤ Rows.uptoBulkAll (strs (H := H) (ss.take n)) := by
  induction n with
  | zero => simp [pres]
  | succ n ih =>
    rw [pres]
    by_cases h : n < ss.length
    · rw [List.take_succ_eq_append_getElem h]
      have e : strs (H := H) (ss.take n ++ [ss[n]]) = strs (ss.take n) ++ [.lit (.string ss[n].data.toList)] := by unfold strs; rw [List.map_append]; rfl
      rw [e, bulk_append]
      simp only [Rows.uptoBulkAll, Rows.uptoBulk]
      have e2 : ss.getD n ByteArray.empty = ss[n] := by simp [List.getD, h]
      rw [e2]
      have e3 : (lst ss[n]).length = ss[n].data.toList.length := by simp [lst]
      omega
    · have e2 : ss.getD n ByteArray.empty = ByteArray.empty := by simp [List.getD, Nat.le_of_not_lt h]
      have e3 : (lst ByteArray.empty).length = 0 := rfl
      have e4 : ss.take (n + 1) = ss.take n := by rw [List.take_of_length_le (by omega), List.take_of_length_le (by omega)]
      rw [e2, e3, e4]
      omega
theorem penRows_all (a1 a2 a3 : Option Addr) (n1 c1 n2 c2 n3 c3 : Nat) (SS : Nat → ByteArray) (MM : Nat → Nat) (OO : Nat → Bool) (w : World)
    (r1 : RowV w a1 n1 fun i => .string (SS i)) (r2 : RowV w a2 n2 fun i => .int .u32 (MM i : Int)) (r3 : RowV w a3 n3 fun i => .bool (OO i))
    (hM : ∀ i, i < n2 → MM i < 4294967296) (hP : pres (fun i => lst (SS i)) n1 ≤ 1048576) :
    Calls Try.prog 7 #[.slice a1 n1 c1, .slice a2 n2 c2, .slice a3 n3 c3] w fun e w' => e = .returned (.bool true) ∧ Below w.heap.size w w' := by
  by_cases h : 40 < n1 ∨ 40 < n2 ∨ 100 < n3
  · exact penRows_long a1 a2 a3 n1 c1 n2 c2 n3 c3 w h
  · exact penRows_walk a1 a2 a3 n1 c1 n2 c2 n3 c3 SS MM OO w (by omega) (by omega) (by omega) r1 r2 r3 hM hP
theorem bound0 {H : Type} {d0 d1 d2 : DataW H} (hk : Rows.uptoSmall H [d0, d1, d2] = true) : Rows.uptoBulk d0 ≤ 1048576 := by
  have h : Rows.uptoBulkAll [d0, d1, d2] ≤ 1048576 := of_decide_eq_true hk
  simp only [Rows.uptoBulkAll] at h
  omega
set_option maxRecDepth 100000 in
theorem penRows_contract (H : Type) (enc : TypeId × Value → H) (W : World) (base : Nat) (args : Array Value) (ds gs : List (DataW H)) (before : List MemPlace)
    (hval : ∀ (j : Nat) t v, Try.f7.params[j]? = some t → args[j]? = some v → Value.okWide Try.prog W .any base t v)
    (hW : DataW.Whole enc Try.prog Try.f7.params.toList Rows.penRowsSpec.vars false W args.toList ds gs before) (hk : Rows.uptoSmall H (ds ++ gs) = true) :
    Calls Try.prog 7 args W fun e W' => ∃ v, e = .returned v ∧ Rows.penRowsSpec.post enc Try.prog Try.f7 false true false false W args v W' := by
  have hW' := hW
  obtain ⟨p, q, hA0, hV, rfl, hfz, hnd⟩ := hW
  have hA : DataW.TrodAll enc Try.prog W 0 (fun _ => true) true Try.f7.params.toList args.toList ds p := hA0
  rw [Try.params7] at hA hval
  obtain ⟨v0, vs0, d0, ds0, p0, q0, hargs, rfl, rfl, h0, r0⟩ := trodAll_cons hA
  obtain ⟨v1, vs1, d1, ds1, p1, q1, rfl, rfl, rfl, h1, r1⟩ := trodAll_cons r0
  obtain ⟨v2, vs2, d2, ds2, p2, q2, rfl, rfl, rfl, h2, r2⟩ := trodAll_cons r1
  obtain ⟨rfl, rfl, rfl⟩ := trodAll_nil r2
  obtain rfl : args = #[v0, v1, v2] := by cases args; simp_all
  obtain ⟨rfl, rfl⟩ := trodVars_none hV
  obtain ⟨a0, len0, cap0, rfl⟩ := okWide_slice Try.underlying52 (hval 0 52 v0 rfl rfl)
  obtain ⟨a1, len1, cap1, rfl⟩ := okWide_slice Try.underlying53 (hval 1 53 v1 rfl rfl)
  obtain ⟨a2, len2, cap2, rfl⟩ := okWide_slice Try.underlying54 (hval 2 54 v2 rfl rfl)
  have k0 := h0
  have k1 := h1
  have k2 := h2
  have lt0 : ∀ x ∈ p0, x.block < W.heap.size := by obtain ⟨m, hm⟩ := k0; exact DataW.trod_lt m _ _ _ hm
  have lt1 : ∀ x ∈ p1, x.block < W.heap.size := by obtain ⟨m, hm⟩ := k1; exact DataW.trod_lt m _ _ _ hm
  have lt2 : ∀ x ∈ p2, x.block < W.heap.size := by obtain ⟨m, hm⟩ := k2; exact DataW.trod_lt m _ _ _ hm
  have hbulk := bound0 (by simpa only [List.append_nil] using hk)
  obtain ⟨SS, w0, hP⟩ : ∃ SS : Nat → ByteArray, RowV W a0 len0 (fun i => .string (SS i)) ∧ pres (fun i => lst (SS i)) len0 ≤ 1048576 := by
    obtain ⟨fuel, hf⟩ := h0
    rcases open_strings Try.underlying52 Try.underlying9 (by kernel_rfl) hf with ⟨hcs, _⟩ | ⟨x, l, c, ss, hcs, _, hl, hm, hz, hx, hcell, _⟩
    · simp [Value.cells] at hcs
      obtain ⟨rfl, rfl, rfl⟩ := hcs
      exact ⟨fun _ => ByteArray.empty, .inl rfl, by simp [pres]⟩
    · simp [Value.cells] at hcs
      obtain ⟨rfl, rfl, rfl⟩ := hcs
      simp only [if_true] at hz
      refine ⟨fun i => ss.getD i ByteArray.empty, rowV_of fun i hi => hcell i (by omega), ?_⟩
      have e0 : d0 = .slice (strs (ss.take len0)) (strs (ss.drop len0)) := congrArg Prod.fst hx
      rw [e0] at hbulk
      simp only [Rows.uptoBulk] at hbulk
      have h5 := pres_bulk (H := H) ss len0
      show pres (fun i => lst (ss.getD i ByteArray.empty)) len0 ≤ 1048576
      omega
  obtain ⟨MM, w1, hM⟩ : ∃ MM : Nat → Nat, RowV W a1 len1 (fun i => .int .u32 (MM i : Int)) ∧ ∀ i, i < len1 → MM i < 4294967296 := by
    obtain ⟨fuel, hf⟩ := h1
    rcases open_ints Try.underlying53 Try.underlying55 (by kernel_rfl) hf with ⟨hcs, _⟩ | ⟨x, l, c, zs, hcs, _, hl, hm, hz, _, hcell, hwz⟩
    · simp [Value.cells] at hcs
      obtain ⟨rfl, rfl, rfl⟩ := hcs
      exact ⟨fun _ => 0, .inl rfl, by omega⟩
    · simp [Value.cells] at hcs
      obtain ⟨rfl, rfl, rfl⟩ := hcs
      simp only [if_true] at hz
      have hw : ∀ i, i < len1 → 0 ≤ zs.getD i 0 ∧ zs.getD i 0 ≤ 4294967295 := fun i hi => by
        have hi2 : i < zs.length := by omega
        rw [List.getD_eq_getElem?_getD, List.getElem?_eq_getElem hi2]
        exact bounds_u32 (hwz _ (List.getElem_mem hi2))
      refine ⟨fun i => (zs.getD i 0).toNat, rowV_of fun i hi => ?_, fun i hi => by have := hw i hi; simp only []; omega⟩
      rw [hcell i (by omega)]
      have := hw i hi
      simp only []
      rw [Int.toNat_of_nonneg this.1]
  obtain ⟨OO, w2⟩ : ∃ OO : Nat → Bool, RowV W a2 len2 (fun i => .bool (OO i)) := by
    obtain ⟨fuel, hf⟩ := h2
    rcases Go.Deep.open_bools Try.underlying54 Try.underlying4 (by kernel_rfl) hf with ⟨hcs, _⟩ | ⟨x, l, c, B, hcs, _, hl, hm, _, hcell⟩
    · simp [Value.cells] at hcs
      obtain ⟨rfl, rfl, rfl⟩ := hcs
      exact ⟨fun _ => false, .inl rfl⟩
    · simp [Value.cells] at hcs
      obtain ⟨rfl, rfl, rfl⟩ := hcs
      exact ⟨B, rowV_of fun i hi => hcell i (by omega)⟩
  clear hA0
  refine (penRows_all a0 a1 a2 len0 cap0 len1 cap1 len2 cap2 SS MM OO W w0 w1 w2 hM hP).mono fun e W' ⟨he, bel⟩ => ?_
  subst he
  exact ⟨_, rfl, _, _, _, [], _, [], hW', trodAll_mk1 (shut_bool Try.underlying4 _), (trodAll_cons_mk (Below.trod laidOut (by kernel_rfl) (of_decide_eq_true (by kernel_rfl)) k0 bel lt0) (trodAll_cons_mk (Below.trod laidOut (by kernel_rfl) (of_decide_eq_true (by kernel_rfl)) k1 bel lt1) (trodAll_cons_mk (Below.trod laidOut (by kernel_rfl) (of_decide_eq_true (by kernel_rfl)) k2 bel lt2) trodAll_mk0))), rfl, bel.frame _, fun h => by cases h⟩
set_option maxRecDepth 100000 in
theorem penRows_lifted (os : Os) (started : os.Started) (H : Type) (enc : TypeId × Value → H) (F : Stop.Interp) :
    ReturnsInHanded {} Try.checked os 7 .any ((Rows.OpenSpec.upto Rows.penRowsSpec).pre6 enc Try.prog Try.f7 Rows.penRowsUptoRow.domain false) (((Rows.OpenSpec.upto Rows.penRowsSpec).at F).post enc Try.prog Try.f7 false true false false) := by
  refine returnsInHanded_of_cond (C := Try.checked) (s := Rows.OpenSpec.upto Rows.penRowsSpec) (k := Rows.uptoSmall) rfl own started (by kernel_rfl) Try.func7
    (OpenSpec.witness (enc := enc) (C := Try.checked) (s := Rows.OpenSpec.upto Rows.penRowsSpec) (k := Rows.uptoSmall) rfl false ⟨#[], #[.slice none 0 0, .slice none 0 0, .slice none 0 0], []⟩ 8 (by kernel_rfl) (by kernel_rfl) (by kernel_rfl)
      (x := ([.nil, .nil, .nil], [], [])) (by kernel_rfl) rfl (by kernel_rfl)) ?_
  intro W base args ds gs before hval hW _ hk _
  exact penRows_contract H enc W base args ds gs before hval hW hk
theorem penRows_over : Rows.penRowsUptoRow.holds Try.pinned (Rows.OpenSpec.upto Rows.penRowsSpec) :=
  OpenClaim.holds_of_cond 7 Try.f7 rfl rfl rfl rfl rfl rfl rfl ⟨rfl, rfl, rfl, rfl, rfl⟩ rfl rfl rfl rfl rfl (by kernel_rfl) Try.func7 (by kernel_rfl)
    (of_decide_eq_true (by kernel_rfl)) (by unfold Func.isWrapper; first | (rw [if_pos (by decide +kernel)]; kernel_rfl) | (rw [if_neg (by decide +kernel)]; exact ⟨rfl, rfl⟩))
    (fun os started H enc _ F => penRows_lifted os started H enc F)
theorem penRows_holds : Rows.PenRowsUptoSaid := penRows_over
#print axioms penRows_holds
end Go.Proofs.Ytpeecmfchnlmlaa
