/- How a slice of rows of bytes that comes in is read. No condition. -/
import Derived.Test.YteohjfhflodklaaFrB
import Derived.Deep.Matrix
namespace Go.Proofs.Yteohjfhflodklaa
open Go.ChangeShapes Go.WideShapes Go.ChangeAt Go.RowKit Go.Deep
/-- The rows ls lie where the slice that begins at a leads. -/
def Grid (w : World) (a : Option Addr) (ls : List (List Nat)) : Prop :=
  ls = [] ∨ ∃ b off, a = some ⟨b, off, none⟩ ∧ b < w.heap.size ∧ ∀ i, i < ls.length → ∃ ai ci, w.cell? ⟨b, off + i, none⟩ = some (.slice ai (ls.getD i []).length ci) ∧ Row w ai (ls.getD i [])
theorem Grid.below {w w' : World} {a : Option Addr} {ls : List (List Nat)} (h : Grid w a ls) (hb : Below w.heap.size w w') : Grid w' a ls := by
  rcases h with h | ⟨b, off, ha, hlt, hc⟩
  · exact .inl h
  · refine .inr ⟨b, off, ha, Nat.lt_of_lt_of_le hlt hb.size, fun i hi => ?_⟩
    obtain ⟨ai, ci, h1, h2⟩ := hc i hi
    exact ⟨ai, ci, (hb.cell (p := ⟨b, off + i, none⟩) hlt).trans h1, h2.below hb⟩
theorem Grid.at_ {w : World} {a : Option Addr} {ls : List (List Nat)} (h : Grid w a ls) (hne : ls ≠ []) : ∃ b off, a = some ⟨b, off, none⟩ ∧ ∀ i, i < ls.length → ∃ ai ci, w.cell? ⟨b, off + i, none⟩ = some (.slice ai (ls.getD i []).length ci) ∧ Row w ai (ls.getD i []) := by
  rcases h with h | ⟨b, off, ha, _, hc⟩
  · exact absurd h hne
  · exact ⟨b, off, ha, hc⟩
theorem grid_of {H : Type} {enc : TypeId × Value → H} {w : World} {fuel : Nat} {a : Option Addr} {len cap : Nat} {x : DataW H × List MemPlace} (h : DataW.trod enc Try.prog w 0 (fun _ => true) true fuel 22 (Value.slice a len cap).cells.toList = some x) :
    ∃ ls : List (List Nat), ls.length = len ∧ Grid w a ls := by
  rcases open_int_rows Try.underlying22 Try.underlying40 Try.underlying5 (by kernel_rfl) (by kernel_rfl) h with ⟨hcs, _⟩ | ⟨y, l, c, A, L, C, Z, hcs, _, hl, hm, _, hr⟩
  · simp [Value.cells] at hcs
    obtain ⟨rfl, rfl, rfl⟩ := hcs
    exact ⟨[], rfl, .inl rfl⟩
  · simp [Value.cells] at hcs
    obtain ⟨rfl, rfl, rfl⟩ := hcs
    have hrow : ∀ r, ∃ l : List Nat, r < len → l.length = L r ∧ Row w (A r) l := by
      intro r
      by_cases hlt : r < len
      · obtain ⟨_, h2, h3, h4, h5, h6, h7⟩ := hr r (by omega)
        have hi : IsRow .u8 w (A r) (L r) (C r) (Z r) := by
          cases hA : A r with
          | none =>
            have := h6 hA
            exact .inl ⟨rfl, by omega, this, List.length_eq_zero_iff.1 (by omega)⟩
          | some z => exact .inr ⟨z, rfl, h2, h3, h4, fun i hi => (h7 z hA).2 i (by omega), h5⟩
        obtain ⟨l, hl1, hl2, _⟩ := bytes_of hi
        exact ⟨l, fun _ => ⟨hl1, hl2⟩⟩
      · exact ⟨[], fun h => absurd h hlt⟩
    obtain ⟨f, hf⟩ := Classical.axiomOfChoice hrow
    refine ⟨(List.range len).map f, by simp, ?_⟩
    by_cases h0 : len = 0
    · subst h0; exact .inl (by simp)
    · obtain ⟨b, off, spot⟩ := y
      have hc0 := (hr 0 (by omega)).1
      have hspot : spot = none := by simpa [Addr.add] using World.cell?_spot hc0
      subst hspot
      refine .inr ⟨b, off, rfl, ?_, fun i hi => ?_⟩
      · have := block_lt_of_cell hc0
        simpa [Addr.add] using this
      · have hi1 : i < len := by simpa using hi
        have hg : ((List.range len).map f).getD i [] = f i := by simp [hi1]
        have hadd : (⟨b, off, none⟩ : Addr).add i = ⟨b, off + i, none⟩ := by unfold Addr.add; split <;> simp_all
        have h1 := (hr i (by omega)).1
        rw [hadd] at h1
        obtain ⟨h2, h3⟩ := hf i hi1
        rw [hg, h2]
        exact ⟨A i, C i, h1, h3⟩

/-! ### Rows of the call's own, of any one-cell elements -/
theorem owns_below {w w' : World} {base e : Nat} {v : Value} {n : Nat} {xs : List Value} (h : w.ownsRow base e 1 v n xs) (hb : Below w.heap.size w w') : w'.ownsRow base e 1 v n xs := by
  refine ⟨h.1, ?_⟩
  rcases h.2 with h3 | ⟨g', cap', cur, he, hb', hg, hc⟩
  · exact .inl h3
  · exact .inr ⟨g', cap', cur, he, hb', (hb.block g' (Array.getElem?_eq_some_iff.1 hg).1).trans hg, hc⟩
theorem owns_grown {w w' : World} {base e : Nat} {v : Value} {n : Nat} {xs : List Value} {o : Option Nat} (h : w.ownsRow base e 1 v n xs) (hg : w.grownBy w' o) (hne : ∀ k, v.ownBlock = some k → o ≠ some k) : w'.ownsRow base e 1 v n xs := by
  refine ⟨h.1, ?_⟩
  rcases h.2 with h3 | ⟨g', cap', cur, he, hb', hg', hc⟩
  · exact .inl h3
  · refine .inr ⟨g', cap', cur, he, hb', (hg.block g' (Array.getElem?_eq_some_iff.1 hg').1 ?_).trans hg', hc⟩
    exact fun e' => hne g' (by rw [he]; rfl) e'.symm
theorem owns_lt {w : World} {base e : Nat} {v : Value} {n : Nat} {xs : List Value} (h : w.ownsRow base e 1 v n xs) {k : Nat} (hk : v.ownBlock = some k) : k < w.heap.size ∧ base ≤ k := by
  rcases h.2 with ⟨rfl, _⟩ | ⟨g', cap', cur, rfl, hb', hg', hc⟩
  · simp [Value.ownBlock] at hk
  · simp [Value.ownBlock] at hk
    subst hk
    exact ⟨(Array.getElem?_eq_some_iff.1 hg').1, hb'⟩
theorem owns_slice {w : World} {base e : Nat} {v : Value} {n : Nat} {xs : List Value} (h : w.ownsRow base e 1 v n xs) : ∃ a c, v = .slice a n c := by
  rcases h.2 with ⟨rfl, rfl⟩ | ⟨g', cap', cur, rfl, hb', hg', hc⟩
  · exact ⟨_, _, rfl⟩
  · exact ⟨_, _, rfl⟩
end Go.Proofs.Yteohjfhflodklaa
