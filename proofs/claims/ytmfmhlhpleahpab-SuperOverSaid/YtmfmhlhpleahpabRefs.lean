/- What the document's own answer writes: the same bytes as the plain mathematics has, in a row of its own. Condition: a text of at most a hundred million bytes. -/
import Derived.Test.YtmfmhlhpleahpabOut
namespace Go.Proofs.Ytmfmhlhpleahpab.Pen
open Go.RowKit Pen
/-- What a call hands out: a row of its own. -/
def Hands (W w' : World) (e : Ending) (l : List Nat) : Prop :=
  ∃ g cap, e = .returned (.slice (some ⟨g, 0, none⟩) l.length cap) ∧ w'.ownsRow W.heap.size 5 1 (.slice (some ⟨g, 0, none⟩) l.length cap) l.length (vals l) ∧ Below W.heap.size W w'
/-- An append to a row of the call's own. -/
theorem own_app {W w1 w2 : World} {v : Value} {l1 l2 : List Nat} {g m cap : Nat} (tmp : Obj) (hb : Below W.heap.size W w1) (hown : w1.ownsRow W.heap.size 5 1 v l1.length (vals l1))
    (hg : (w1.alloc tmp).grownBy w2 v.ownBlock) (hown2 : w2.ownsRow W.heap.size 5 1 (.slice (some ⟨g, 0, none⟩) m cap) m (vals (l1 ++ l2))) :
    Hid (w2.ownsRow W.heap.size 5 1 (.slice (some ⟨g, 0, none⟩) m cap) m (vals (l1 ++ l2)) ∧ Below W.heap.size W w2) := by
  refine ⟨hown2, (hb.alloc hb.size tmp).grown hg (by have := hb.size; simp; omega) ?_⟩
  rcases hown.2 with ⟨rfl, _⟩ | ⟨g', cap', cur, rfl, hb', _⟩
  · intro k hk; simp [Value.ownBlock] at hk
  · intro k hk; simp [Value.ownBlock] at hk; omega
theorem row_one (w : World) (z : Int) (b : Nat) (hz : z = (b : Int)) (hb : b < 256) : Row (w.alloc (.cells #[.int .u8 z] 5)) (some ⟨w.heap.size, 0, none⟩) [b] := by
  subst hz
  exact row1 w b hb
end Go.Proofs.Ytmfmhlhpleahpab.Pen
