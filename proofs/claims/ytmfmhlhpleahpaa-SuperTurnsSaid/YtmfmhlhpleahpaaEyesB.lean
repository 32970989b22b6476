/- What the program's Eye answers for floats and texts, and what New makes; whatever lies before it. No condition. -/
import Derived.Test.YtmfmhlhpleahpaaEyes
namespace Go.Proofs.Ytmfmhlhpleahpaa.Pen
open Go.RowKit Pen
theorem new_any {w : World} (a : Option Addr) (l : List Nat) (n cap : Nat) (hn : l.length = n) (hr : Row w a l) :
    Calls Try.prog 46 #[.slice a n cap] w fun e w' => e = .returned (.pointer (some ⟨w.heap.size, 0, none⟩)) ∧ w' = w.alloc (.cells #[.string (strOf l), .bool false] 102) := by
  have hs := fun w (hr : Row w a l) => str_any w a l n cap hn hr
  have k := hs w hr
  clear hs hr
  go_enter Try.func46, Try.ntmps46
  go_wp2_with fail
  go_ret
  exact ⟨rfl, rfl⟩
theorem EyeAt.new (w : World) (l : List Nat) (h : ∀ x ∈ l, x < 256) : EyeAt (w.alloc (.cells #[.string (strOf l), .bool false] 102)) w.heap.size l false :=
  ⟨heap_alloc_new w _, by simp, h⟩
end Go.Proofs.Ytmfmhlhpleahpaa.Pen
