import Derived.Test.YtenjhmlgimnnoaaBase
import Derived.Test.YtenjhmlgimnnoaaPMath
namespace Go.Proofs.Ytenjhmlgimnnoaa
open Go.RowKit Pen
/-- At q lies a Pen that has written l; its row is the block o; what it owns lies from base on. -/
def PenAt (base : Nat) (w : World) (q : Nat) (o : Option Nat) (l : List Nat) : Prop :=
  ∃ v, Boxed w q 69 v ∧ w.ownsRow base 5 1 v l.length (vals l) ∧ v.ownBlock = o ∧ base ≤ q ∧ ∀ x ∈ l, x < 256
theorem PenAt.own {base : Nat} {w : World} {q : Nat} {o : Option Nat} {l : List Nat} (h : PenAt base w q o l) : base ≤ q ∧ base ≤ w.heap.size ∧ ∀ k, o = some k → base ≤ k := by
  obtain ⟨v, hv, hown, rfl, hq, _⟩ := h
  have := hv.lt
  refine ⟨hq, by omega, ?_⟩
  rcases hown.2 with ⟨rfl, _⟩ | ⟨g, cap, cur, rfl, hb, _⟩
  · intro k hk; simp [Value.ownBlock] at hk
  · intro k hk; simp [Value.ownBlock] at hk; omega
theorem Only.pen {base : Nat} {w w' : World} {q : Nat} {o : Option Nat} {l : List Nat} (h : Only q o w w') (hp : PenAt base w q o l) : Below base w w' :=
  h.below hp.own.1 hp.own.2.2 hp.own.2.1
/-- Behind an append and its store. -/
theorem PenAt.grown {base : Nat} {w w1 : World} {q : Nat} {v v' : Value} {l l' : List Nat} {n : Nat} (hb : Boxed w q 69 v) (hr : w.ownsRow base 5 1 v l.length (vals l)) (hq : base ≤ q) (hg : w.grownBy w1 v.ownBlock)
    (hn : l'.length = n) (hown : w1.ownsRow base 5 1 v' n (vals l')) (hl : ∀ x ∈ l', x < 256) :
    Boxed w1 q 69 v ∧ PenAt base (w1.setCell ⟨q, 0, none⟩ v') q v'.ownBlock l' ∧ Only q v.ownBlock w (w1.setCell ⟨q, 0, none⟩ v') := by
  subst hn
  have hb1 : Boxed w1 q 69 v := hb.kept hg (hb.not_row (by decide) hr)
  refine ⟨hb1, ⟨v', hb1.set v', hown.kept (grownBy_setCell' w1 q v') (.inr (hb1.not_row (by decide) hown).symm), rfl, hq, hl⟩, ?_⟩
  have h2 := grownBy_setCell' w1 q v'
  exact ⟨h2.os.trans hg.os, h2.tape.trans hg.tape, h2.output.trans hg.output, Nat.le_trans hg.size h2.size, fun k hk hkq hko => (h2.block k (Nat.lt_of_lt_of_le hk hg.size) (by simpa using hkq)).trans (hg.block k hk hko)⟩
theorem PenAt.kept {base : Nat} {w w' : World} {q : Nat} {o : Option Nat} {l : List Nat} (h : PenAt base w q o l) (hk : ∀ k, k < w.heap.size → k = q ∨ some k = o → w'.heap[k]? = w.heap[k]?) : PenAt base w' q o l := by
  obtain ⟨v, hv, hown, rfl, hq, hl⟩ := h
  refine ⟨v, (hk q hv.lt (.inl rfl)).trans hv, ?_, rfl, hq, hl⟩
  refine ⟨hown.1, ?_⟩
  rcases hown.2 with h | ⟨g, cap, cur, rfl, hb', hg, hc⟩
  · exact .inl h
  · exact .inr ⟨g, cap, cur, rfl, hb', (hk g (Array.getElem?_eq_some_iff.1 hg).1 (.inr (by simp [Value.ownBlock]))).trans hg, hc⟩
theorem PenAt.below {base : Nat} {w w' : World} {q : Nat} {o : Option Nat} {l : List Nat} (h : PenAt base w q o l) (hb : Below w.heap.size w w') : PenAt base w' q o l :=
  h.kept fun k hk _ => hb.block k hk
theorem PenAt.new (base : Nat) (w : World) (h : base ≤ w.heap.size) : PenAt base (w.alloc (.cells #[.slice none 0 0] 69)) w.heap.size none [] :=
  ⟨_, Boxed.new w 69 _, World.ownsRow_nil _ base 5 1, rfl, h, by simp⟩

/-! ### Eyes -/
/-- At q lies an Eye that has l left. -/
def EyeAt (w : World) (q : Nat) (l : List Nat) (bad : Bool) : Prop :=
  w.heap[q]? = some (.cells #[.string (strOf l), .bool bad] 85 (0, 0)) ∧ (bad = true → l = []) ∧ ∀ x ∈ l, x < 256
theorem EyeAt.kept {w w' : World} {q : Nat} {l : List Nat} {bad : Bool} (h : EyeAt w q l bad) (hk : w'.heap[q]? = w.heap[q]?) : EyeAt w' q l bad := ⟨hk.trans h.1, h.2⟩
theorem EyeAt.lt {w : World} {q : Nat} {l : List Nat} {bad : Bool} (h : EyeAt w q l bad) : q < w.heap.size := (Array.getElem?_eq_some_iff.1 h.1).1
theorem EyeAt.below {w w' : World} {q : Nat} {l : List Nat} {bad : Bool} (h : EyeAt w q l bad) (hb : Below w.heap.size w w') : EyeAt w' q l bad := h.kept (hb.block q h.lt)
end Go.Proofs.Ytenjhmlgimnnoaa
