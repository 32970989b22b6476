/- A map in memory whose keys are whole numbers: what lies under each; looked up, stored, dropped. No condition. -/
import Derived.Test.YtccahhehbpahoaaBase
import Derived.Maps.OwnSet
import Derived.Maps.RangeWalk
import Derived.Lib.SlKeysI
namespace Go.Proofs.Ytccahhehbpahoaa
open Go.RowKit Go.Maps
set_option maxRecDepth 4000
/-- Whatever lies there reads as itself. -/
def tok (v : Value) : Option (DataW Value × List MemPlace) := some (.held v, [])
theorem tok_inv {v : Value} {y : DataW Value × List MemPlace} (h : tok v = some y) : y = (.held v, []) := (Option.some.inj h).symm
theorem law3 : Keyed Try.prog 3 := int_keyed Try.underlying3
theorem law60 : Keyed Try.prog 94 := int_keyed Try.underlying94
/-- Block b is a map of at most n entries; f says what lies under each number. -/
def MapIs (w : World) (k : TypeId) (q : IntKind) (b n : Nat) (f : Int → Option Value) : Prop :=
  ∃ D : DataW Value, w.ownsMap Try.prog k tok b n D ∧ ∀ a, match f a with
    | none => Maps.has D (.int q a) = false
    | some v => Maps.has D (.int q a) = true ∧ ∀ z, D.atKey (.int q a) z = .held v
def upd (f : Int → Option Value) (a : Int) (v : Option Value) : Int → Option Value := fun x => if x = a then v else f x
theorem MapIs.lt {w : World} {k : TypeId} {q : IntKind} {b n : Nat} {f : Int → Option Value} (h : MapIs w k q b n f) : b < w.heap.size := by
  obtain ⟨D, h, _⟩ := h
  exact h.lt
theorem MapIs.is_map {w : World} {k : TypeId} {q : IntKind} {b n : Nat} {f : Int → Option Value} (h : MapIs w k q b n f) : ∃ es c, w.heap[b]? = some (.map es c) := by
  obtain ⟨D, ⟨es, c, h, _⟩, _⟩ := h
  exact ⟨es, c, h⟩
theorem MapIs.keep {w w' : World} {k : TypeId} {q : IntKind} {b n : Nat} {f : Int → Option Value} (h : MapIs w k q b n f) (hk : w'.heap[b]? = w.heap[b]?) : MapIs w' k q b n f := by
  obtain ⟨D, ⟨es, c, hb, r⟩, hf⟩ := h
  exact ⟨D, ⟨es, c, hk.trans hb, r⟩, hf⟩
theorem MapIs.mono {w : World} {k : TypeId} {q : IntKind} {b n m : Nat} {f : Int → Option Value} (h : MapIs w k q b n f) (hm : n ≤ m) : MapIs w k q b m f := by
  obtain ⟨D, h, hf⟩ := h
  exact ⟨D, h.mono hm, hf⟩
theorem MapIs.made (w : World) (k : TypeId) (q : IntKind) : MapIs (w.alloc (.map #[] 0)) k q w.heap.size 0 (fun _ => none) :=
  ⟨_, World.ownsMap_made w Try.prog k tok, fun _ => rfl⟩
section
variable {w : World} {t k e : TypeId} {q : IntKind} {b n : Nat} {f : Int → Option Value}
/-- 'm[a]'. -/
theorem MapIs.look (h : MapIs w k q b n f) (hk : Try.prog.underlying k = some (.int q)) (ht : Try.prog.underlying t = some (.map k e)) {z : Value} (hz : ∀ w : World, (zeroValue e).run Try.prog w = .ok z w) (a : Int) (hw : (Lit.int q a).wf = true) :
    (Instr.lookup t (.map (some b)) (.int q a) true).run Try.prog w = .ok (.tuple #[(f a).getD z, .bool (f a).isSome]) w ∧ (Instr.lookup t (.map (some b)) (.int q a) false).run Try.prog w = .ok ((f a).getD z) w := by
  obtain ⟨D, ho, hf⟩ := h
  have hkey := keyOf_int_mk (P := Try.prog) hk hw
  obtain ⟨v, ps, h1, h2⟩ := ho.look_ok (int_keyed hk) ht (hz w) (zd := .held z) (zp := []) rfl hkey
  obtain ⟨v', ps', h1', h2'⟩ := ho.lookup (int_keyed hk) ht (hz w) (zd := .held z) (zp := []) rfl hkey
  have e2 := tok_inv h2
  have e2' := tok_inv h2'
  simp only [Prod.mk.injEq] at e2 e2'
  rw [h1, h1']
  have ha := hf a
  cases hfa : f a with
  | none =>
    rw [hfa] at ha
    have hat := Maps.atKey_of_not_has ha (DataW.held z)
    rw [hat] at e2 e2'
    have e3 : z = v := DataW.held.inj e2.1
    have e3' : z = v' := DataW.held.inj e2'.1
    rw [← e3, ← e3', ha]
    exact ⟨rfl, rfl⟩
  | some u =>
    rw [hfa] at ha
    rw [ha.2] at e2 e2'
    have e3 : u = v := DataW.held.inj e2.1
    have e3' : u = v' := DataW.held.inj e2'.1
    rw [← e3, ← e3', ha.1]
    exact ⟨rfl, rfl⟩
/-- 'm[a] = v'. -/
theorem MapIs.store (h : MapIs w k q b n f) (hk : Try.prog.underlying k = some (.int q)) (ht : Try.prog.underlying t = some (.map k e)) (a : Int) (hw : (Lit.int q a).wf = true) (v : Value) (hn : n ≤ 1000000) :
    ∃ w', (Instr.mapUpdate t (.map (some b)) (.int q a) v).run Try.prog w = .ok () w' ∧ MapIs w' k q b (n + 1) (upd f a (some v)) ∧ w.grownBy w' (some b) ∧ w'.heap.size = w.heap.size := by
  obtain ⟨D, ho, hf⟩ := h
  have hkey := keyOf_int_mk (P := Try.prog) hk hw
  obtain ⟨w', h1, h2, h3⟩ := ho.store (int_keyed hk) ht (by unfold maxLen; omega) hkey (val := v) (d := .held v) (ps := []) rfl
  have hD := ho.isMap
  refine ⟨w', h1, ⟨_, h2, fun x => ?_⟩, h3.grown, ?_⟩
  · unfold upd
    by_cases hx : x = a
    · subst hx
      rw [if_pos rfl]
      have hkl := (int_keyed hk).key hkey
      exact ⟨Maps.has_put_same hD hkl _, fun z => Maps.atKey_put_same hD hkl _ z⟩
    · rw [if_neg hx]
      have hne : Lit.int q x ≠ Lit.int q a := fun e => hx (by injection e)
      have := hf x
      rw [Maps.has_put_other hne]
      cases hfx : f x with
      | none => rw [hfx] at this; exact this
      | some u =>
        rw [hfx] at this
        exact ⟨this.1, fun z => by rw [Maps.atKey_put_other hne]; exact this.2 z⟩
  · obtain ⟨es, c, es', c', hb, rfl⟩ := h3
    simp [ChangeMaps.setBlock]
/-- 'delete(m, a)'. -/
theorem MapIs.drop (h : MapIs w k q b n f) (hk : Try.prog.underlying k = some (.int q)) (ht : Try.prog.underlying t = some (.map k e)) (a : Int) (hw : (Lit.int q a).wf = true) :
    ∃ w', (∀ ty, (Builtin.delete_ #[t, k] ty #[.map (some b), .int q a]).run Try.prog w = .ok (.tuple #[]) w') ∧ MapIs w' k q b n (upd f a none) ∧ w.grownBy w' (some b) ∧ w'.heap.size = w.heap.size := by
  obtain ⟨D, ho, hf⟩ := h
  have hkey := keyOf_int_mk (P := Try.prog) hk hw
  obtain ⟨w', h1, h2, h3⟩ := ho.drop (int_keyed hk) ht hkey 0
  refine ⟨w', fun ty => ?_, ⟨_, h2, fun x => ?_⟩, h3.grown, ?_⟩
  · rw [← h1]; rfl
  · unfold upd
    by_cases hx : x = a
    · subst hx
      rw [if_pos rfl]
      exact Maps.has_del_same
    · rw [if_neg hx]
      have hne : Lit.int q x ≠ Lit.int q a := fun e => hx (by injection e)
      have := hf x
      rw [Maps.has_del_other hne]
      cases hfx : f x with
      | none => rw [hfx] at this; exact this
      | some u =>
        rw [hfx] at this
        exact ⟨this.1, fun z => by rw [Maps.atKey_del_other hne]; exact this.2 z⟩
  · obtain ⟨es, c, es', c', hb, rfl⟩ := h3
    simp [ChangeMaps.setBlock]
end
/-- Its numbers, in whatever order. -/
theorem MapIs.keys {w : World} {b n : Nat} {f : Int → Option Value} {ss : List Int} (h : MapIs w 3 .i64 b n f) (hd : ss.Nodup) (hm : ∀ x, x ∈ ss ↔ (f x).isSome = true) : ∃ D : DataW Value, w.ownsMap Try.prog 3 tok b n D ∧ ss.Perm (intKeys D) := by
  obtain ⟨D, ho, hf⟩ := h
  refine ⟨D, ho, ?_⟩
  obtain ⟨es, hD, hpw, _⟩ := ho.entries law3
  obtain ⟨es', hD', hko⟩ := ho.keysOf
  obtain rfl : es = es' := by rw [hD] at hD'; simpa using hD'
  subst hD
  refine perm_intKeys hpw (fun p hp => by obtain ⟨v, hv⟩ := hko p hp; obtain ⟨x, _, hx, _⟩ := Maps.keyOf_i64 Try.underlying3 hv; exact ⟨x, hx⟩) hd (fun x => ?_)
  rw [hm x]
  have := hf x
  cases hfx : f x with
  | none => rw [hfx] at this; simp [this]
  | some u => rw [hfx] at this; simp [this.1]
end Go.Proofs.Ytccahhehbpahoaa
