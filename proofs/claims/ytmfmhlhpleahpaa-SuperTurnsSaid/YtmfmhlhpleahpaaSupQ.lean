/- What stays while a statement that was handed two slots goes on. No condition. -/
import Derived.Test.YtmfmhlhpleahpaaSupP
namespace Go.Proofs.Ytmfmhlhpleahpaa
open Go.ChangeShapes Go.WideShapes Go.ChangeAt Go.RowKit
structure Two (w : World) (x y : Array Value) (v : World) : Prop where
  bx : v.heap[w.heap.size]? = some (.cells x 27 (0, 0))
  bY : v.heap[w.heap.size + 1]? = some (.cells y 27 (0, 0))
  low : Below w.heap.size w v
  sz : w.heap.size + 1 < v.heap.size
theorem Two.below {w v v' : World} {x y : Array Value} (h : Two w x y v) (hb : Below v.heap.size v v') : Two w x y v' :=
  ⟨(hb.block _ (by have := h.sz; omega)).trans h.bx, (hb.block _ h.sz).trans h.bY, h.low.trans (hb.mono h.low.size), Nat.lt_of_lt_of_le h.sz hb.size⟩
theorem Two.only {w v v' : World} {x y : Array Value} {q p : Nat} (h : Two w x y v) (ho : Only q (some p) v v') (hq : w.heap.size + 2 ≤ q) (hp : w.heap.size + 2 ≤ p) : Two w x y v' :=
  ⟨(ho.block _ (by have := h.sz; omega) (by omega) (by simp; omega)).trans h.bx, (ho.block _ h.sz (by omega) (by simp; omega)).trans h.bY, h.low.trans (ho.low2 (by omega) (by omega) h.low.size), Nat.lt_of_lt_of_le h.sz ho.size⟩
theorem Two.new (w : World) (x y : Array Value) : Two w x y ((w.alloc (.cells x 27)).alloc (.cells y 27)) :=
  ⟨heap_alloc2_old _ _ _, heap_alloc2_new _ _ _, ((Below.refl _ _).alloc (Nat.le_refl _) _).alloc (by simp) _, by simp⟩
/-- Both Numbers are set. -/
theorem Two.set {w v : World} {x y : Array Value} (h : Two w x y v) (a b : Value) : Two w (x.setIfInBounds 0 a) (y.setIfInBounds 0 b) ((v.setCell ⟨w.heap.size, 0, none⟩ a).setCell ⟨w.heap.size + 1, 0, none⟩ b) := by
  have e1 : (v.setCell ⟨w.heap.size, 0, none⟩ a).heap[w.heap.size]? = some (.cells (x.setIfInBounds 0 a) 27 (0, 0)) := heap_setCell_same _ _ _ _ _ _ h.bx
  have e2 : (v.setCell ⟨w.heap.size, 0, none⟩ a).heap[w.heap.size + 1]? = some (.cells y 27 (0, 0)) := (Below.heap_setCell _ _ _ _ (by dsimp only; omega)).trans h.bY
  refine ⟨(Below.heap_setCell _ _ _ _ (by dsimp only; omega)).trans e1, heap_setCell_same _ _ _ _ _ _ e2, (h.low.setCell (Nat.le_refl _) _).setCell (by simp) _, ?_⟩
  have := h.sz
  simpa [World.setCell] using this
theorem Two.fr {w v : World} {x y : Array Value} (h : Two w x y v) : v.frozen? ⟨w.heap.size, 0, none⟩ = false ∧ v.frozen? ⟨w.heap.size + 1, 0, none⟩ = false := ⟨frozen_of_row v _ 0 _ 27 h.bx, frozen_of_row v _ 0 _ 27 h.bY⟩
theorem rows_of {H : Type} {enc : TypeId × Value → H} {w : World} {fuel : Nat} {a : Option Addr} {len cap : Nat} {x : DataW H × List MemPlace} (h : DataW.trod enc Try.prog w 0 (fun _ => true) true fuel 35 (Value.slice a len cap).cells.toList = some x) :
    ∃ l : List Nat, l.length = len ∧ Row w a l := by
  have hi : ∃ zs, IsRow .u8 w a len cap zs := by
    rcases open_ints Try.underlying35 Try.underlying5 (by kernel_rfl) h with ⟨hcs, _⟩ | ⟨x, l, c, zs, hcs, _, hl, hm, hz, _, hcell, hwz⟩
    · simp [Value.cells] at hcs
      obtain ⟨rfl, rfl, rfl⟩ := hcs
      exact ⟨[], .inl ⟨rfl, rfl, rfl, rfl⟩⟩
    · simp [Value.cells] at hcs
      obtain ⟨rfl, rfl, rfl⟩ := hcs
      exact ⟨zs, .inr ⟨_, rfl, hl, hm, by simpa using hz, hcell, hwz⟩⟩
  obtain ⟨zs, hi⟩ := hi
  obtain ⟨l, hl, hr, _⟩ := bytes_of hi
  exact ⟨l, hl, hr⟩
theorem laws_own : ownKnob Try.prog.godebug = none := by kernel_rfl
theorem laws_laid : laidOutB Try.prog = true := by kernel_rfl
theorem refMay96 (s : Sp) : s.refMay 96 = true ↔ s.Ok 96 := by
  unfold Sp.refMay
  rw [decide_eq_true_eq]
  exact ⟨fun h => h.2, fun h => ⟨by decide, h⟩⟩
end Go.Proofs.Ytmfmhlhpleahpaa
