/- The plain mathematics of a disk: sectors with what is safe and what is cached, and the cells in which they lie. No condition. -/
import Derived.Test.YteohjfhflodklaaMem
namespace Go.Proofs.Yteohjfhflodklaa
open Go.RowKit
set_option maxRecDepth 4000
/-! ### A list laid over another -/
theorem splice_flat {α : Type} (m : Nat) : ∀ (L : List (List α)) (i off : Nat) (cs : List α), (∀ x ∈ L, x.length = m) → i < L.length → off + cs.length ≤ m → splice L.flatten (i * m + off) cs = (L.set i (splice (L.getD i []) off cs)).flatten
  | [], i, _, _, _, hi, _ => by simp at hi
  | x :: L, 0, off, cs, hm, _, hc => by
    have hx : x.length = m := hm x (by simp)
    simp only [splice, List.flatten_cons, Nat.zero_mul, Nat.zero_add, List.getD_cons_zero, List.set_cons_zero]
    rw [List.take_append_of_le_length (by omega), List.drop_append_of_le_length (by omega)]
    simp
  | x :: L, i + 1, off, cs, hm, hi, hc => by
    have hx : x.length = m := hm x (by simp)
    have ih := splice_flat m L i off cs (fun y hy => hm y (by simp [hy])) (by simpa using hi) hc
    have e : (i + 1) * m + off = x.length + (i * m + off) := by rw [hx, Nat.succ_mul]; omega
    simp only [splice, List.flatten_cons, List.getD_cons_succ, List.set_cons_succ] at ih ⊢
    rw [e, List.take_append, List.drop_append, List.take_of_length_le (by omega), Nat.add_sub_cancel_left, List.drop_eq_nil_of_le (by omega), show x.length + (i * m + off) + cs.length - x.length = i * m + off + cs.length by omega, List.append_assoc, List.nil_append, ih]
theorem flat_len {α : Type} (m : Nat) : ∀ (L : List (List α)), (∀ x ∈ L, x.length = m) → L.flatten.length = L.length * m
  | [], _ => by simp
  | x :: L, h => by
    rw [List.flatten_cons, List.length_append, flat_len m L (fun y hy => h y (by simp [hy])), h x (by simp), List.length_cons, Nat.succ_mul]
    omega
theorem flat_get {α : Type} (m : Nat) : ∀ (L : List (List α)) (i j : Nat), (∀ x ∈ L, x.length = m) → j < m → L.flatten[i * m + j]? = (L.getD i [])[j]?
  | [], i, j, _, _ => by simp
  | x :: L, 0, j, h, hj => by
    have hx : x.length = m := h x (by simp)
    simp only [List.flatten_cons, Nat.zero_mul, Nat.zero_add, List.getD_cons_zero]
    rw [List.getElem?_append_left (by omega)]
  | x :: L, i + 1, j, h, hj => by
    have hx : x.length = m := h x (by simp)
    have e : (i + 1) * m + j = x.length + (i * m + j) := by rw [hx, Nat.succ_mul]; omega
    rw [List.flatten_cons, e, List.getElem?_append_right (by omega), Nat.add_sub_cancel_left, flat_get m L i j (fun y hy => h y (by simp [hy])) hj, List.getD_cons_succ]

/-! ### Sectors -/
structure Sec where
  safe : List Nat
  cached : List Nat
  waits : Bool
def zeros : List Nat := List.replicate 64 0
def Sec.last (s : Sec) : List Nat := if s.waits then s.cached else s.safe
def Bytes (l : List Nat) : Prop := l.length = 64 ∧ ∀ x ∈ l, x < 256
def Sec.ok (s : Sec) : Prop := Bytes s.safe ∧ Bytes s.cached
theorem Sec.ok.last {s : Sec} (h : s.ok) : Bytes s.last := by unfold Sec.last; split; exact h.2; exact h.1
theorem bytes_zeros : Bytes zeros := ⟨by simp [zeros], by intro x hx; simp [zeros] at hx; omega⟩
def blank : Sec := ⟨zeros, zeros, false⟩
theorem blank_ok : blank.ok := ⟨bytes_zeros, bytes_zeros⟩
def secCells (s : Sec) : List Value := vals s.safe ++ (vals s.cached ++ [.bool s.waits])
theorem secCells_len {s : Sec} (h : s.ok) : (secCells s).length = 129 := by simp [secCells, vals_len, h.1.1, h.2.1]
def secsCells (l : List Sec) : List Value := (l.map secCells).flatten
def allOk (l : List Sec) : Prop := ∀ s ∈ l, s.ok
theorem secs_lens {l : List Sec} (h : allOk l) : ∀ x ∈ l.map secCells, x.length = 129 := by
  intro x hx
  obtain ⟨s, hs, rfl⟩ := List.mem_map.1 hx
  exact secCells_len (h s hs)
theorem secsCells_len {l : List Sec} (h : allOk l) : (secsCells l).length = l.length * 129 := by
  rw [secsCells, flat_len 129 _ (secs_lens h), List.length_map]
theorem secsCells_one (l : List Sec) : ∀ u ∈ secsCells l, u.oneCell' = true := by
  intro u hu
  simp only [secsCells, List.mem_flatten, List.mem_map] at hu
  obtain ⟨x, ⟨s, _, rfl⟩, hu⟩ := hu
  simp only [secCells, List.mem_append, List.mem_singleton] at hu
  rcases hu with h | h | rfl
  · exact vals_one _ u h
  · exact vals_one _ u h
  · rfl
theorem secCells_one (s : Sec) : ∀ u ∈ secCells s, u.oneCell' = true := by
  intro u hu
  exact secsCells_one [s] u (by simpa [secsCells] using hu)
theorem allOk.get {l : List Sec} (h : allOk l) (i : Nat) (hi : i < l.length) : (l.getD i blank).ok := by
  have : l.getD i blank ∈ l := by simp [hi]
  exact h _ this
theorem allOk.set {l : List Sec} (h : allOk l) (i : Nat) {s : Sec} (hs : s.ok) : allOk (l.set i s) := by
  intro x hx
  rcases List.mem_or_eq_of_mem_set hx with h1 | h1
  · exact h x h1
  · rw [h1]; exact hs
theorem map_getD {l : List Sec} (i : Nat) (hi : i < l.length) : (l.map secCells).getD i [] = secCells (l.getD i blank) := by
  simp [hi]
theorem secs_get {l : List Sec} (h : allOk l) (i j : Nat) (hi : i < l.length) (hj : j < 129) : (secsCells l)[i * 129 + j]? = (secCells (l.getD i blank))[j]? := by
  rw [secsCells, flat_get 129 _ i j (secs_lens h) hj, map_getD i hi]
/-- Cells laid into one sector. -/
theorem secs_splice {l : List Sec} (h : allOk l) (i off : Nat) (cs : List Value) (s' : Sec) (hi : i < l.length) (hc : off + cs.length ≤ 129) (hs : splice (secCells (l.getD i blank)) off cs = secCells s') :
    splice (secsCells l) (i * 129 + off) cs = secsCells (l.set i s') := by
  rw [secsCells, splice_flat 129 _ i off cs (secs_lens h) (by simpa using hi) hc, map_getD i hi, hs, secsCells, List.map_set]
theorem sec_whole (s s' : Sec) (h : s.ok) (h' : s'.ok) : splice (secCells s) 0 (secCells s') = secCells s' := by
  have e : (secCells s).drop (secCells s').length = [] := List.drop_eq_nil_of_le (by rw [secCells_len h, secCells_len h']; omega)
  simp [splice, e]
theorem splice_at {α : Type} (a b c d : List α) (hl : d.length = b.length) : splice (a ++ (b ++ c)) a.length d = a ++ (d ++ c) := by
  have e1 : (a ++ (b ++ c)).take a.length = a := by simp
  have e2 : (a ++ (b ++ c)).drop (a.length + d.length) = c := by rw [hl, ← List.append_assoc]; exact List.drop_left' (by simp)
  rw [splice, e1, e2]
theorem sec_safe (s : Sec) (b : List Nat) (h : s.ok) (hb : Bytes b) : splice (secCells s) 0 (vals b) = secCells { s with safe := b } := by
  have := splice_at ([] : List Value) (vals s.safe) (vals s.cached ++ [.bool s.waits]) (vals b) (by rw [vals_len, vals_len, hb.1, h.1.1])
  simpa [secCells] using this
theorem sec_cached (s : Sec) (b : List Nat) (h : s.ok) (hb : Bytes b) : splice (secCells s) 64 (vals b) = secCells { s with cached := b } := by
  have := splice_at (vals s.safe) (vals s.cached) [.bool s.waits] (vals b) (by rw [vals_len, vals_len, hb.1, h.2.1])
  rw [vals_len, h.1.1] at this
  exact this
theorem sec_waits (s : Sec) (t : Bool) (h : s.ok) : splice (secCells s) 128 [.bool t] = secCells { s with waits := t } := by
  have := splice_at (vals s.safe ++ vals s.cached) [Value.bool s.waits] [] [.bool t] rfl
  rw [List.length_append, vals_len, vals_len, h.1.1, h.2.1] at this
  simpa [secCells] using this
/-- The first n bytes of b, then those of a. -/
def mix (a b : List Nat) (n : Nat) : List Nat := b.take n ++ a.drop n
/-- The bytes b laid over a from off on. -/
def over (a : List Nat) (off : Nat) (b : List Nat) : List Nat := a.take off ++ (b ++ a.drop (off + b.length))
theorem vals_over (a : List Nat) (off : Nat) (b : List Nat) : splice (vals a) off (vals b) = vals (over a off b) := by
  simp [splice, over, vals]
theorem splice_left {α : Type} (a c : List α) (off : Nat) (d : List α) (h : off + d.length ≤ a.length) : splice (a ++ c) off d = splice a off d ++ c := by
  rw [splice, splice, List.take_append_of_le_length (by omega), List.drop_append_of_le_length (by omega)]
  simp
theorem splice_right {α : Type} (a c : List α) (off : Nat) (d : List α) : splice (a ++ c) (a.length + off) d = a ++ splice c off d := by
  rw [splice, splice, List.take_append, List.drop_append, List.take_of_length_le (by omega), List.drop_eq_nil_of_le (by omega), show a.length + off - a.length = off by omega, show a.length + off + d.length - a.length = off + d.length by omega]
  simp
theorem sec_over_safe (s : Sec) (off : Nat) (b : List Nat) (h : s.ok) (hb : off + b.length ≤ 64) : splice (secCells s) off (vals b) = secCells { s with safe := over s.safe off b } := by
  rw [secCells, splice_left _ _ _ _ (by rw [vals_len, vals_len, h.1.1]; exact hb), vals_over, secCells]
theorem sec_over_cached (s : Sec) (off : Nat) (b : List Nat) (h : s.ok) (hb : off + b.length ≤ 64) : splice (secCells s) (64 + off) (vals b) = secCells { s with cached := over s.cached off b } := by
  have e : (64 : Nat) = (vals s.safe).length := by rw [vals_len, h.1.1]
  rw [secCells]
  conv => lhs; rw [e]
  rw [splice_right, splice_left _ _ _ _ (by rw [vals_len, vals_len, h.2.1]; exact hb), vals_over, secCells]
theorem bytes_over {a : List Nat} (h : Bytes a) (off : Nat) {b : List Nat} (hb : ∀ x ∈ b, x < 256) (hl : off + b.length ≤ 64) : Bytes (over a off b) := by
  have h1 := h.1
  refine ⟨by simp [over]; omega, fun x hx => ?_⟩
  simp only [over, List.mem_append] at hx
  rcases hx with h2 | h2 | h2
  · exact h.2 x (List.mem_of_mem_take h2)
  · exact hb x h2
  · exact h.2 x (List.mem_of_mem_drop h2)
theorem mix_over (a b : List Nat) (n : Nat) (h : n ≤ b.length) : over a 0 (b.take n) = mix a b n := by
  simp [over, mix, Nat.min_eq_left h]
theorem bytes_mix {a b : List Nat} (ha : Bytes a) (hb : Bytes b) (n : Nat) (hn : n ≤ 64) : Bytes (mix a b n) := by
  rw [← mix_over a b n (by rw [hb.1]; exact hn)]
  exact bytes_over ha 0 (fun x hx => hb.2 x (List.mem_of_mem_take hx)) (by simp; omega)
theorem sec_get_safe (s : Sec) (h : s.ok) (j : Nat) (hj : j < 64) : (secCells s)[j]? = (vals s.safe)[j]? := by
  rw [secCells, List.getElem?_append_left (by rw [vals_len, h.1.1]; exact hj)]
theorem sec_get_cached (s : Sec) (h : s.ok) (j : Nat) (hj : j < 64) : (secCells s)[64 + j]? = (vals s.cached)[j]? := by
  rw [secCells, List.getElem?_append_right (by rw [vals_len, h.1.1]; omega), vals_len, h.1.1, Nat.add_sub_cancel_left, List.getElem?_append_left (by rw [vals_len, h.2.1]; exact hj)]
theorem sec_get_waits (s : Sec) (h : s.ok) : (secCells s)[128]? = some (.bool s.waits) := by
  rw [secCells, List.getElem?_append_right (by rw [vals_len, h.1.1]; omega), vals_len, h.1.1, List.getElem?_append_right (by rw [vals_len, h.2.1]; omega), vals_len, h.2.1]
  rfl

/-! ### A disk -/
structure Dk where
  secs : List Sec
  ops : Nat
  fuse : Option Nat
  dead : Bool
/-- One Write or Flush is about to be done: may it be? -/
def Dk.may (d : Dk) : Bool := match d.fuse with
  | some 0 => false
  | _ => true
def Dk.spent (d : Dk) : Dk := match d.fuse with
  | some 0 => { d with dead := true }
  | some (n + 1) => { d with fuse := some n, ops := d.ops + 1 }
  | none => { d with ops := d.ops + 1 }
theorem spent_secs (d : Dk) : d.spent.secs = d.secs := by unfold Dk.spent; split <;> rfl
/-- At q lies a disk d, at p its sectors. -/
def DiskAt (w : World) (q p : Nat) (d : Dk) : Prop :=
  ∃ z : Int, w.heap[q]? = some (.cells #[.slice (some ⟨p, 0, none⟩) d.secs.length d.secs.length, .int .i64 (d.ops : Int), .bool d.fuse.isSome, .int .i64 z, .bool d.dead] 66 (0, 0)) ∧
    w.heap[p]? = some (.cells (secsCells d.secs).toArray 86 (0, 0)) ∧ allOk d.secs ∧ (∀ n : Nat, d.fuse = some n → z = (n : Int) ∧ n < 9223372036854775808) ∧ d.secs.length ≤ 776
theorem DiskAt.ne {w : World} {q p : Nat} {d : Dk} (h : DiskAt w q p d) : q ≠ p := by
  obtain ⟨z, h1, h2, _⟩ := h
  intro e
  rw [e, h2] at h1
  simp at h1
theorem DiskAt.lt {w : World} {q p : Nat} {d : Dk} (h : DiskAt w q p d) : q < w.heap.size ∧ p < w.heap.size := by
  obtain ⟨z, h1, h2, _⟩ := h
  exact ⟨(Array.getElem?_eq_some_iff.1 h1).1, (Array.getElem?_eq_some_iff.1 h2).1⟩
theorem DiskAt.ok {w : World} {q p : Nat} {d : Dk} (h : DiskAt w q p d) : allOk d.secs ∧ d.secs.length ≤ 776 := by
  obtain ⟨z, _, _, h3, _, h5⟩ := h
  exact ⟨h3, h5⟩
theorem DiskAt.row {w : World} {q p : Nat} {d : Dk} (h : DiskAt w q p d) : w.heap[p]? = some (.cells (secsCells d.secs).toArray 86 (0, 0)) := by
  obtain ⟨z, _, h2, _⟩ := h
  exact h2
theorem DiskAt.kept {w w' : World} {q p : Nat} {d : Dk} (h : DiskAt w q p d) (hq : w'.heap[q]? = w.heap[q]?) (hp : w'.heap[p]? = w.heap[p]?) : DiskAt w' q p d := by
  obtain ⟨z, h1, h2, h3⟩ := h
  exact ⟨z, hq.trans h1, hp.trans h2, h3⟩
theorem DiskAt.below {w w' : World} {q p : Nat} {d : Dk} (h : DiskAt w q p d) (hb : Below w.heap.size w w') : DiskAt w' q p d :=
  h.kept (hb.block q h.lt.1) (hb.block p h.lt.2)
theorem DiskAt.only {w w' : World} {q p q' : Nat} {o' : Option Nat} {d : Dk} (h : DiskAt w q p d) (ho : Only q' o' w w') (h1 : q ≠ q') (h2 : p ≠ q') (h3 : some q ≠ o') (h4 : some p ≠ o') : DiskAt w' q p d :=
  h.kept (ho.block q h.lt.1 h1 h3) (ho.block p h.lt.2 h2 h4)
/-- The sectors are turned. -/
theorem DiskAt.setRow {w : World} {q p : Nat} {d : Dk} (h : DiskAt w q p d) (l : List Sec) (hl : allOk l) (hn : l.length = d.secs.length) : DiskAt (w.setRow p (secsCells l).toArray) q p { d with secs := l } := by
  have hne := h.ne
  obtain ⟨z, h1, h2, h3, h4, h5⟩ := h
  refine ⟨z, ?_, setRow_heap w p _ _ 86 _ h2, hl, h4, by simpa [hn] using h5⟩
  rw [setRow_other w p q _ hne]
  simpa [hn] using h1
theorem only_setRow (w : World) (q p : Nat) (cs : Array Value) : Only q (some p) w (w.setRow p cs) :=
  ⟨rfl, rfl, rfl, by simp [World.setRow], fun k _ _ h => setRow_other w p k cs (fun e => h (by rw [e]))⟩
theorem only_setCell (w : World) (q i : Nat) (o : Option Nat) (v : Value) : Only q o w (w.setCell ⟨q, i, none⟩ v) :=
  ⟨rfl, rfl, rfl, by simp [World.setCell], fun k _ h _ => by
    have : (w.setCell ⟨q, i, none⟩ v).heap[k]? = w.heap[k]? := by
      simp only [World.setCell, Array.getElem?_modify]
      rw [if_neg (fun e => h e.symm)]
    exact this⟩
theorem Only.tr {q : Nat} {o : Option Nat} {w w1 w2 : World} (h : Only q o w w1) (h1 : Only q o w1 w2) : Only q o w w2 := h.trans h1 (.inl rfl)
theorem Only.weak {q : Nat} {o : Option Nat} {w w1 : World} (h : Only q none w w1) : Only q o w w1 := ⟨h.os, h.tape, h.output, h.size, fun k hk hq _ => h.block k hk hq (by simp)⟩
end Go.Proofs.Yteohjfhflodklaa
