/- What the program's Eye answers for floats and texts, and what New makes; whatever lies before it. No condition. -/
import Derived.Test.YtenjhmlgimnnoaaEyes
namespace Go.Proofs.Ytenjhmlgimnnoaa.Pen
open Go.RowKit Pen
theorem text_any {w : World} {q : Nat} {l : List Nat} {bad : Bool} (h : EyeAt w q l bad) :
    Calls Try.prog 35 #[.pointer (some ⟨q, 0, none⟩)] w fun e w' => e = .returned (.string (strOf (eText l).1)) ∧ EyeAt w' q (eText l).2.1 (bad || (eText l).2.2) ∧ Only q none w w' := by
  have kn := num_any h
  have hle := eNum_le 9 0 0 l
  go_enter Try.func35, Try.ntmps35
  go_wp2_with fail
  refine kn.mono ?_
  rintro e w1 ⟨rfl, he, ho⟩
  go_wp2_with fail
  refine (take_any _ hle he).mono ?_
  rintro e w2 ⟨rfl, he2, ho2⟩
  go_wp2_with fail
  go_ret
  refine ⟨rfl, ?_, only_trans ho ho2⟩
  rw [eText, ← Bool.or_assoc]
  exact he2
theorem new_any {w : World} (a : Option Addr) (l : List Nat) (n cap : Nat) (hn : l.length = n) (hr : Row w a l) :
    Calls Try.prog 33 #[.slice a n cap] w fun e w' => e = .returned (.pointer (some ⟨w.heap.size, 0, none⟩)) ∧ w' = w.alloc (.cells #[.string (strOf l), .bool false] 85) := by
  have hs := fun w (hr : Row w a l) => str_any w a l n cap hn hr
  have k := hs w hr
  clear hs hr
  go_enter Try.func33, Try.ntmps33
  go_wp2_with fail
  go_ret
  exact ⟨rfl, rfl⟩
theorem EyeAt.new (w : World) (l : List Nat) (h : ∀ x ∈ l, x < 256) : EyeAt (w.alloc (.cells #[.string (strOf l), .bool false] 85)) w.heap.size l false :=
  ⟨heap_alloc_new w _, by simp, h⟩
end Go.Proofs.Ytenjhmlgimnnoaa.Pen
