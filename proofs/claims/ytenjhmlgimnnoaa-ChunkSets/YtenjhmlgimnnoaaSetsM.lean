/- Records one behind another in memory; pieces that are set anew in another order. No condition. -/
import Derived.Test.YtenjhmlgimnnoaaPuts
import Derived.Test.YtenjhmlgimnnoaaInv
import Derived.Lib.SlKeysI
namespace Go.Proofs.Ytenjhmlgimnnoaa
open Go.ChangeShapes Go.WideShapes Go.ChangeAt Go.RowKit Pen
set_option maxRecDepth 4000
set_option linter.unusedVariables false
/-- A row of the rows that came in, in whatever later world. -/
theorem Grid.later' {w : World} {a : Option Addr} {ls : List (List Nat)} (h : Grid w a ls) {i : Nat} (hi : i < ls.length) : ∃ b off, a = some ⟨b, off, none⟩ ∧ ∃ ai ci, (∀ W, Below w.heap.size w W → W.cell? ⟨b, off + i, none⟩ = some (.slice ai (ls.getD i []).length ci)) ∧ (∀ W, Below w.heap.size w W → Row W ai (ls.getD i [])) := by
  rcases h with h | ⟨b, off, ha, hlt, hc⟩
  · rw [h] at hi; simp at hi
  · obtain ⟨ai, ci, h1, h2⟩ := hc i hi
    exact ⟨b, off, ha, ai, ci, fun W hW => (hW.cell (p := ⟨b, off + i, none⟩) hlt).trans h1, fun W hW => h2.below hW⟩
def recOf (p : Nat × List Nat) : List Nat := num p.1 ++ text p.2
/-- The records of these pieces lie in a row of the call's own. -/
def RecRow (b0 : Nat) (w : World) (v : Value) (ps : Ps) : Prop :=
  ∃ xs : List Value, xs.length = ps.length ∧ w.ownsRow b0 27 1 v ps.length xs ∧ ∀ (j : Nat) p, ps[j]? = some p → ∃ b off c, xs[j]? = some (.slice (some ⟨b, off, none⟩) (recOf p).length c) ∧ BRow w (some ⟨b, off, none⟩) (recOf p)
theorem RecRow.nil (b0 : Nat) (w : World) : RecRow b0 w (.slice none 0 0) [] := ⟨[], rfl, World.ownsRow_nil _ _ 27 1, by simp⟩
theorem RecRow.keep {b0 : Nat} {w w' : World} {v : Value} {ps : Ps} (h : RecRow b0 w v ps) (hs : w.heap.size ≤ w'.heap.size) (hk : ∀ (k : Nat) (cs : Array Value) (t : TypeId) (m : Nat × Nat), w.heap[k]? = some (Obj.cells cs t m) → t ≠ 55 → t ≠ 3 → w'.heap[k]? = some (Obj.cells cs t m)) : RecRow b0 w' v ps := by
  obtain ⟨xs, h1, h2, h3⟩ := h
  refine ⟨xs, h1, owns_keep h2 fun k cur _ _ h => hk k cur 27 _ h (by decide) (by decide), fun j p hp => ?_⟩
  obtain ⟨b, off, c, e1, e2⟩ := h3 j p hp
  exact ⟨b, off, c, e1, e2.keep hs fun k cs m h => hk k cs 5 m h (by decide) (by decide)⟩
theorem RecRow.chg {b0 q base : Nat} {w w' : World} {v : Value} {ps : Ps} (h : RecRow b0 w v ps) (hc : Chg q base w w') : RecRow b0 w' v ps := h.keep hc.size hc.typ
theorem RecRow.below {b0 : Nat} {w w' : World} {v : Value} {ps : Ps} (h : RecRow b0 w v ps) (hb : Below w.heap.size w w') : RecRow b0 w' v ps := h.keep hb.size fun k cs t m h _ _ => (hb.block k (lt_of_some h)).trans h
/-- What an append onto a row of rows leaves. -/
theorem grown27 {w w' : World} {b0 : Nat} {v : Value} {k : Nat} {xs : List Value} (ho : w.ownsRow b0 27 1 v k xs) (hg : w.grownBy w' v.ownBlock) :
    (∀ (k : Nat) (o : Obj), w.heap[k]? = some o → (∀ cur : Array Value, o ≠ Obj.cells cur 27 (0, 0)) → w'.heap[k]? = some o) ∧ w.heap.size ≤ w'.heap.size := by
  refine ⟨fun k o hk hne => (hg.block k (lt_of_some hk) ?_).trans hk, hg.size⟩
  intro e
  obtain ⟨_, cur, hc⟩ := owns_in ho e.symm
  rw [hk] at hc
  exact hne cur (Option.some.inj hc)
/-- One record more. -/
theorem RecRow.snoc {b0 : Nat} {w W w2 : World} {v v2 : Value} {ps : Ps} {p : Nat × List Nat} {b off c m : Nat} (xs : List Value) (hW : Below w.heap.size w W) (hx1 : xs.length = ps.length)
    (hx3 : ∀ (j : Nat) r, ps[j]? = some r → ∃ b off c, xs[j]? = some (.slice (some ⟨b, off, none⟩) (recOf r).length c) ∧ BRow W (some ⟨b, off, none⟩) (recOf r)) (ho : W.ownsRow b0 27 1 v ps.length xs)
    (hm : (recOf p).length = m) (hp : BRow W (some ⟨b, off, none⟩) (recOf p)) (hg : W.grownBy w2 v.ownBlock) (ho2 : w2.ownsRow b0 27 1 v2 (ps.length + 1) (xs ++ [.slice (some ⟨b, off, none⟩) m c])) : RecRow b0 w2 v2 (ps ++ [p]) := by
  subst hm
  have hkb : ∀ {a : Option Addr} {l : List Nat}, BRow W a l → BRow w2 a l := fun {a l} h => h.keep (grown27 ho hg).2 fun k cs m hk => (grown27 ho hg).1 k _ hk (by intro cur e; injection e with _ e2; exact absurd e2 (by decide))
  refine ⟨xs ++ [.slice (some ⟨b, off, none⟩) (recOf p).length c], by simp [hx1], by rw [List.length_append]; exact ho2, fun j r hr => ?_⟩
  by_cases hj : j < ps.length
  · rw [List.getElem?_append_left hj] at hr
    obtain ⟨b', off', c', e1, e2⟩ := hx3 j r hr
    exact ⟨b', off', c', by rw [List.getElem?_append_left (by rw [hx1]; exact hj)]; exact e1, hkb e2⟩
  · rw [List.getElem?_append_right (by omega)] at hr
    have hj0 : j - ps.length = 0 := by
      have := (List.getElem?_eq_some_iff.1 hr).1
      simp at this
      omega
    rw [hj0] at hr
    simp at hr
    subst hr
    exact ⟨b, off, c, by rw [List.getElem?_append_right (by omega), hx1, hj0]; rfl, hkb hp⟩
/-- What may be part of a store stays behind an append onto a row of rows. -/
theorem kept27 {q base : Nat} {w w' : World} {b0 : Nat} {v : Value} {k : Nat} {xs : List Value} (ho : w.ownsRow b0 27 1 v k xs) (hg : w.grownBy w' v.ownBlock) : Kept q base w w' :=
  ⟨(grown27 ho hg).2, fun k o hk _ hp => (grown27 ho hg).1 k o hk (by
    intro cur e
    subst e
    rcases hp with ⟨es, c, h⟩ | ⟨cs, t, m, h, ht⟩
    · cases h
    · injection h with _ e2
      rw [← e2] at ht
      exact absurd ht (by decide))⟩
theorem below27 {w w' : World} {b0 : Nat} {v : Value} {k : Nat} {xs : List Value} (ho : w.ownsRow b0 27 1 v k xs) (hg : w.grownBy w' v.ownBlock) (hb : b0 ≤ w.heap.size) : Below b0 w w' :=
  (Below.refl b0 w).grown hg hb (fun j hj => (owns_in ho hj).1)

/-! ### Set anew in another order -/
def rot (ps : Ps) (T i : Nat) : Ps := (List.range i).map fun t => ps.getD ((t + T) % ps.length) (0, [])
theorem rot_snoc (ps : Ps) (T i : Nat) : rot ps T (i + 1) = rot ps T i ++ [ps.getD ((i + T) % ps.length) (0, [])] := by
  unfold rot
  rw [List.range_succ, List.map_append]
  rfl
theorem rot_len (ps : Ps) (T i : Nat) : (rot ps T i).length = i := by simp [rot]
theorem getD_of {ps : Ps} {j : Nat} (hj : j < ps.length) : ps[j]? = some (ps.getD j (0, [])) := by
  rw [List.getD_eq_getElem?_getD, List.getElem?_eq_getElem hj]
  rfl
theorem mod_inj {K T s t : Nat} (hs : s < K) (ht : t < K) (h : (s + T) % K = (t + T) % K) : s = t := by
  have h1 := Nat.div_add_mod (s + T) K
  have h2 := Nat.div_add_mod (t + T) K
  rw [h] at h1
  have h3 : K * ((s + T) / K) + t = K * ((t + T) / K) + s := by omega
  rcases Nat.lt_trichotomy ((s + T) / K) ((t + T) / K) with h4 | h4 | h4
  · have := Nat.mul_le_mul_left K h4
    rw [Nat.mul_succ] at this
    omega
  · rw [h4] at h3; omega
  · have := Nat.mul_le_mul_left K h4
    rw [Nat.mul_succ] at this
    omega
theorem rot_mem {ps : Ps} {T i : Nat} {p : Nat × List Nat} (h0 : 0 < ps.length) (h : p ∈ rot ps T i) : ∃ t, t < i ∧ ps[(t + T) % ps.length]? = some p := by
  obtain ⟨t, ht, rfl⟩ := List.mem_map.1 h
  exact ⟨t, List.mem_range.1 ht, getD_of (Nat.mod_lt _ h0)⟩
theorem ps_nodup {ps : Ps} {last : Nat} (h : Ok ps last) : ps.Nodup := h.ids.imp fun h e => h (by rw [e])
/-- Two places with one number are one. -/
theorem ids_place {ps : Ps} {last : Nat} (h : Ok ps last) {i j : Nat} {p r : Nat × List Nat} (hi : ps[i]? = some p) (hj : ps[j]? = some r) (e : p.1 = r.1 ∨ p.2 = r.2) : i = j := by
  obtain ⟨hi', rfl⟩ := List.getElem?_eq_some_iff.1 hi
  obtain ⟨hj', rfl⟩ := List.getElem?_eq_some_iff.1 hj
  have e2 : ps[i] = ps[j] := by
    rcases e with e | e
    · have h1 := byId_mem h.ids (List.getElem_mem hi')
      have h2 := byId_mem h.ids (List.getElem_mem hj')
      rw [e, h2] at h1
      exact Prod.ext e (Option.some.inj h1).symm
    · have h1 := byText_mem h.txt (List.getElem_mem hi')
      have h2 := byText_mem h.txt (List.getElem_mem hj')
      rw [e, h2] at h1
      exact Prod.ext (Option.some.inj h1).symm e
  exact (List.getElem_inj (ps_nodup h)).1 e2
theorem rot_fresh {ps : Ps} {last : Nat} (h : Ok ps last) {T i : Nat} (hi : i < ps.length) {p : Nat × List Nat} (hp : ps[(i + T) % ps.length]? = some p) : byId (rot ps T i) (p.1 : Int) = none ∧ byText (rot ps T i) p.2 = none := by
  rw [byId_none, byText_none]
  refine ⟨fun r hr e => ?_, fun r hr e => ?_⟩
  · obtain ⟨t, ht, hr2⟩ := rot_mem (by omega) hr
    have := mod_inj (by omega) hi (ids_place h hr2 hp (.inl (by omega)))
    omega
  · obtain ⟨t, ht, hr2⟩ := rot_mem (by omega) hr
    have := mod_inj (by omega) hi (ids_place h hr2 hp (.inr e))
    omega
theorem rot_perm {ps : Ps} {last : Nat} (h : Ok ps last) (T : Nat) {l2 : Nat} (h2 : Ok (rot ps T ps.length) l2) : (rot ps T ps.length).Perm ps := by
  by_cases h0 : ps.length = 0
  · have : ps = [] := List.length_eq_zero_iff.1 h0
    subst this
    exact List.Perm.refl _
  refine (List.perm_ext_iff_of_nodup (ps_nodup h2) (ps_nodup h)).2 fun p => ⟨fun hp => ?_, fun hp => ?_⟩
  · obtain ⟨t, _, ht⟩ := rot_mem (by omega) hp
    exact List.mem_of_getElem? ht
  · obtain ⟨j, hj, rfl⟩ := List.getElem_of_mem hp
    -- the place t with (t + T) % K = j
    refine List.mem_map.2 ⟨(j + (ps.length - T % ps.length)) % ps.length, List.mem_range.2 (Nat.mod_lt _ (by omega)), ?_⟩
    have hT : T % ps.length < ps.length := Nat.mod_lt _ (by omega)
    have e : ((j + (ps.length - T % ps.length)) % ps.length + T) % ps.length = j := by
      rw [Nat.add_mod, Nat.mod_mod, ← Nat.add_mod]
      have e1 : (j + (ps.length - T % ps.length) + T) % ps.length = (j + (ps.length - T % ps.length) + T % ps.length) % ps.length := by
        rw [Nat.add_mod, Nat.add_mod (j + (ps.length - T % ps.length)) (T % ps.length), Nat.mod_mod]
      rw [e1, show j + (ps.length - T % ps.length) + T % ps.length = j + ps.length by omega, Nat.add_mod_right, Nat.mod_eq_of_lt hj]
    show ps.getD ((_ + T) % ps.length) _ = _
    rw [e, List.getD_eq_getElem?_getD, List.getElem?_eq_getElem hj]
    rfl
theorem perm_ids {a b : Ps} (h : a.Perm b) : idsOf a = idsOf b := mergeSort_of_perm_i (h.map _)
theorem perm_bytes {a b : Ps} (h : a.Perm b) : bytes a = bytes b := (h.map _).sum_nat
theorem perm_byId {a b : Ps} {l1 l2 : Nat} (h : a.Perm b) (ha : Ok a l1) (hb : Ok b l2) (x : Int) : byId a x = byId b x := by
  cases hx : byId b x with
  | none =>
    rw [byId_none] at hx ⊢
    exact fun p hp => hx p (h.mem_iff.1 hp)
  | some t =>
    obtain ⟨n, rfl, hm⟩ := byId_some hx
    exact byId_mem ha.ids (h.mem_iff.2 hm)
end Go.Proofs.Ytenjhmlgimnnoaa
