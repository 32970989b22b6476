/- What IDs of a store answers. Condition: at most a million pieces. -/
import Derived.Test.YtenjhmlgimnnoaaCkS
import Derived.Test.YtenjhmlgimnnoaaLays
namespace Go.Proofs.Ytenjhmlgimnnoaa
open Go.ChangeShapes Go.WideShapes Go.ChangeAt Go.RowKit Go.Maps Go.Sort Go.Shelf
set_option maxRecDepth 4000
set_option linter.unusedVariables false
/-- The numbers, rising. -/
def idsOf (ps : Ps) : List Int := (ps.map fun p => (p.1 : Int)).mergeSort fun x y => decide (x ≤ y)
theorem sortsA (m : Nat) : AnyZI.SortsIn Try.prog sortedA_ren Fence.wide m :=
  ⟨fun blk off cap ss W hH hblk hsz => callsIn_wide.2 (AnyM.slices_Sort_int sortA blk off cap ss W hH hblk hsz),
   fun p cap W => callsIn_wide.2 (AnyM.slices_Sort_int_none sortA p cap W)⟩
set_option maxHeartbeats 1000000 in
theorem ids_map {H : Type} {w : World} {q b nn : Nat} (c0 : w.cell? ⟨q, 0, none⟩ = some (.map (some b))) (D0 : DataW H) (R : Value → Option (DataW H × List MemPlace)) (hown : w.ownsMap Try.prog 3 R b nn D0) (hmax : Maps.size D0 ≤ maxLen) (hbytes : Maps.size D0 * 8 ≤ 140737488355328) :
    Calls Try.prog 14 #[.pointer (some ⟨q, 0, none⟩)] w fun e w' => ∃ (v : Value) (ss : List Int), e = .returned v ∧ ss.Perm (intKeys D0) ∧
      w'.ownsRow w.heap.size 3 1 v ss.length ((ss.mergeSort (fun x y => decide (x ≤ y))).map encZ) ∧ (v = .slice none 0 0 ↔ ss = []) ∧ Below w.heap.size w w' := by
  refine (callsIn_wide (n := 6)).1 ?_
  have hbl := hown.lt
  have hseq : SeqGives Fence.wide 2 Try.prog 43 #[.pointer (some ⟨w.heap.size, 0, none⟩)] encZ (fun ss => ss.Perm (intKeys D0)) (Maps.size D0) (w.alloc (.cells #[.map (some b)] 52)) :=
    AnyZI.keys_gives (ρ := keysA_ren) { keysA with } Fence.wide _ trivial rfl (by omega) w.heap.size b nn D0 _ (by simp) (by simp) (by
      obtain ⟨es, clock, hb, Ft, hs, hD⟩ := hown
      exact ⟨es, clock, (Below.heap_alloc _ _ b hbl).trans hb, Ft, hs, hD⟩)
  have cK : ∀ mb W, CallsIn Fence.wide 5 Try.prog 29 #[.map mb] W fun e w' => e = .returned (.func (.func 43) #[] #[.pointer (some ⟨W.heap.size, 0, none⟩)]) ∧ w' = W.alloc (.cells #[.map mb] 52) := fun mb W => AnyZI.keys_in keysA Fence.wide 5 trivial rfl mb W
  have cS := AnyZI.sorted_in sortedA Fence.wide 5 trivial trivial trivial trivial rfl (by omega) (sortsA _) (enters_of Try.func42 (by kernel_rfl) rfl) 43 #[.pointer (some ⟨w.heap.size, 0, none⟩)] trivial (enters_of Try.func43 (by kernel_rfl) rfl) _ _ hmax hbytes _ hseq
  change CallsIn _ _ Try.prog 28 _ _ _ at cS
  have hfK : Fence.wide.fn 29 := trivial
  have hfS : Fence.wide.fn 28 := trivial
  refine callsIn_of_wp Try.func14 rfl trivial ?_ rfl
  simp only [Try.ntmps14, List.size_toArray, List.length_cons, List.length_nil, Nat.reduceAdd, Nat.reduceSub, Array.replicate_succ, Array.replicate_zero, List.push_toArray, List.append_toArray, List.nil_append, List.cons_append]
  gi_wp2_with (first
    | (gi_at_call 29; refine (cK _ _).mono ?_; rintro e w' ⟨rfl, rfl⟩)
    | (gi_at_call 28; refine cS.mono ?_; rintro e w' ⟨v, ss, rfl, hS, hrow, hnil, hb⟩))
  go_ret
  exact ⟨v, ss, rfl, hS, ownsRow_base_a hrow (by simp), hnil, ((Below.refl _ w).alloc (Nat.le_refl _) _).trans (hb.mono (by simp))⟩
set_option maxHeartbeats 1000000 in
theorem ids_nil {w : World} {q : Nat} (c0 : w.cell? ⟨q, 0, none⟩ = some (.map none)) : Calls Try.prog 14 #[.pointer (some ⟨q, 0, none⟩)] w fun e w' => e = .returned (.slice none 0 0) ∧ Below w.heap.size w w' := by
  refine (callsIn_wide (n := 6)).1 ?_
  have hseq : SeqGives Fence.wide 2 Try.prog 43 #[.pointer (some ⟨w.heap.size, 0, none⟩)] encZ (fun ss : List Int => ss = []) 0 (w.alloc (.cells #[.map none] 52)) :=
    AnyZI.keys_gives_nil (ρ := keysA_ren) { keysA with } Fence.wide _ trivial rfl w.heap.size _ (by simp) (by simp)
  have cK : ∀ mb W, CallsIn Fence.wide 5 Try.prog 29 #[.map mb] W fun e w' => e = .returned (.func (.func 43) #[] #[.pointer (some ⟨W.heap.size, 0, none⟩)]) ∧ w' = W.alloc (.cells #[.map mb] 52) := fun mb W => AnyZI.keys_in keysA Fence.wide 5 trivial rfl mb W
  have cS := AnyZI.sorted_in sortedA Fence.wide 5 trivial trivial trivial trivial rfl (by omega) (sortsA _) (enters_of Try.func42 (by kernel_rfl) rfl) 43 #[.pointer (some ⟨w.heap.size, 0, none⟩)] trivial (enters_of Try.func43 (by kernel_rfl) rfl) _ 0 (Nat.zero_le _) (by omega) _ hseq
  change CallsIn _ _ Try.prog 28 _ _ _ at cS
  have hfK : Fence.wide.fn 29 := trivial
  have hfS : Fence.wide.fn 28 := trivial
  refine callsIn_of_wp Try.func14 rfl trivial ?_ rfl
  simp only [Try.ntmps14, List.size_toArray, List.length_cons, List.length_nil, Nat.reduceAdd, Nat.reduceSub, Array.replicate_succ, Array.replicate_zero, List.push_toArray, List.append_toArray, List.nil_append, List.cons_append]
  gi_wp2_with (first
    | (gi_at_call 29; refine (cK _ _).mono ?_; rintro e w' ⟨rfl, rfl⟩)
    | (gi_at_call 28; refine cS.mono ?_; rintro e w' ⟨v, ss, rfl, rfl, hrow, hnil, hb⟩; obtain rfl : v = .slice none 0 0 := hnil.2 rfl))
  go_ret
  exact ⟨rfl, ((Below.refl _ w).alloc (Nat.le_refl _) _).trans (hb.mono (by simp))⟩
theorem encZ_ivals (l : List Int) : l.map encZ = ivals l := rfl
theorem idsOf_len (ps : Ps) : (idsOf ps).length = ps.length := by
  unfold idsOf
  rw [(List.mergeSort_perm _ _).length_eq, List.length_map]
theorem idsOf_mem {ps : Ps} {x : Int} : x ∈ idsOf ps ↔ byId ps x ≠ none := by
  unfold idsOf
  rw [(List.mergeSort_perm _ _).mem_iff, List.mem_map]
  constructor
  · rintro ⟨p, hp, rfl⟩ h
    exact byId_none.1 h p hp rfl
  · intro h
    cases hb : byId ps x with
    | none => exact absurd hb h
    | some b =>
      obtain ⟨n, rfl, hm⟩ := byId_some hb
      exact ⟨_, hm, rfl⟩
theorem idsOf_nodup {ps : Ps} {last : Nat} (h : Ok ps last) : (ps.map fun p => (p.1 : Int)).Nodup := by
  rw [List.Nodup, List.pairwise_map]
  exact h.ids.imp fun h e => h (by omega)
theorem idsOf_rise {ps : Ps} {last : Nat} (h : Ok ps last) : (idsOf ps).Pairwise fun x y => x < y := by
  have tr : ∀ a b c : Int, decide (a ≤ b) = true → decide (b ≤ c) = true → decide (a ≤ c) = true := fun a b c h1 h2 => by simp only [decide_eq_true_eq] at *; omega
  have to : ∀ a b : Int, (decide (a ≤ b) || decide (b ≤ a)) = true := fun a b => by simp only [Bool.or_eq_true, decide_eq_true_eq]; omega
  have h1 := List.pairwise_mergeSort tr to (ps.map fun p => (p.1 : Int))
  have h2 : (idsOf ps).Nodup := ((List.mergeSort_perm _ _).nodup_iff).2 (idsOf_nodup h)
  unfold idsOf
  refine (h1.and h2).imp ?_
  rintro a b ⟨h3, h4⟩
  simp only [decide_eq_true_eq] at h3
  omega
theorem ids_any {base : Nat} {w : World} {q n : Nat} {s : St} (h : CkAt base w q n s) (hn : n ≤ 1000000) :
    Calls Try.prog 14 #[.pointer (some ⟨q, 0, none⟩)] w fun e w' => ∃ v, e = .returned v ∧ w'.ownsRow w.heap.size 3 1 v (idsOf s.ps).length (ivals (idsOf s.ps)) ∧ Below w.heap.size w w' := by
  obtain ⟨P, N, c0, c1, c2, cf, hmp, hq⟩ := h.cells
  rcases hmp with ⟨rfl, rfl, hps⟩ | ⟨bp, bn, f, g, rfl, rfl, h3, h4, h5, h6, h7, h8, h9⟩
  · refine (ids_nil c0).mono ?_
    rintro e w' ⟨rfl, hb⟩
    refine ⟨_, rfl, ?_, hb⟩
    have : idsOf s.ps = [] := by rw [hps]; simp [idsOf]
    rw [this]
    exact World.ownsRow_nil _ _ 3 1
  · obtain ⟨D, ho, hp⟩ := h6.keys (ss := s.ps.map fun p => (p.1 : Int)) (idsOf_nodup h.ok) (fun x => by
      have hx := h8 x
      cases hb : byId s.ps x with
      | none =>
        rw [hx.1 hb]
        simp only [Option.isSome_none, Bool.false_eq_true, iff_false]
        intro hm
        obtain ⟨p, hp, rfl⟩ := List.mem_map.1 hm
        exact byId_none.1 hb p hp rfl
      | some b =>
        obtain ⟨v, hv, _⟩ := hx.2 b hb
        rw [hv]
        simp only [Option.isSome_some, iff_true]
        obtain ⟨k, rfl, hm⟩ := byId_some hb
        exact List.mem_map.2 ⟨_, hm, rfl⟩)
    have hsz := ho.size_le
    refine (ids_map c0 D tok ho (by unfold maxLen; omega) (by omega)).mono ?_
    rintro e w' ⟨v, ss, rfl, hperm, hrow, _, hb⟩
    have e1 : ss.mergeSort (fun x y => decide (x ≤ y)) = idsOf s.ps := mergeSort_of_perm_i (hperm.trans hp.symm)
    have e2 : ss.length = (idsOf s.ps).length := by rw [← e1, (List.mergeSort_perm _ _).length_eq]
    rw [e1, e2] at hrow
    exact ⟨v, rfl, hrow, hb⟩
end Go.Proofs.Ytenjhmlgimnnoaa
