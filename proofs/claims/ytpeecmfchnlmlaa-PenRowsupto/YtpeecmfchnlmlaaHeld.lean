/- What a Pen hands out in whatever later world, the text of a row in whatever later world, and when two texts are one. No condition but the lengths named. -/
import Derived.Test.YtpeecmfchnlmlaaFrame
namespace Go.Proofs.Ytpeecmfchnlmlaa
open Go.ChangeShapes Go.WideShapes Go.ChangeAt Go.RowKit Pen
theorem str_at {w : World} {a : Option Addr} {l : List Nat} {n cap : Nat} (hr : Row w a l) (hn : l.length = n) : ∀ W, Below w.heap.size w W → (convert 25 9 (.slice a n cap)).run Try.prog W = .ok (.string (strOf l)) W :=
  fun W hW => str_any W a l n cap hn (hr.below hW)
theorem bytes_at {base : Nat} {w W : World} {q : Nat} {o : Option Nat} {l : List Nat} {n : Nat} (hn : l.length = n) (hne : l ≠ []) (hl : l.length ≤ 900000000) (h : PenAt base w q o l) (hW : Below w.heap.size w W) :
    Calls Try.prog 16 #[.pointer (some ⟨q, 0, none⟩)] W fun e w' => ∃ g cap', e = .returned (.slice (some ⟨g, 0, none⟩) n cap') ∧ Below w.heap.size w w' ∧ Below W.heap.size W w' ∧ Below w'.heap.size w' w' ∧ Row w' (some ⟨g, 0, none⟩) l := by
  subst hn
  refine (bytes_any hne hl (h.below hW)).mono ?_
  rintro e w' ⟨g, cap', rfl, h1, h2, _, _⟩
  exact ⟨g, cap', rfl, hW.trans (h2.mono hW.size), h2, Below.refl _ _, h1⟩
theorem strs_same (a b : List Nat) (ha : ∀ x ∈ a, x < 256) (hb : ∀ x ∈ b, x < 256) : ((strOf a).toList == (strOf b).toList) = decide (a = b) := by
  rw [ByteArray.toList_eq, ByteArray.toList_eq]
  by_cases h : a = b
  · subst h; simp
  · have h1 : strOf a ≠ strOf b := fun e => h ((strOf_inj ha hb).1 e)
    have h2 : (strOf a).data.toList ≠ (strOf b).data.toList := by
      intro e
      apply h1
      have : (strOf a).data = (strOf b).data := by simpa using e
      cases ha' : strOf a; cases hb' : strOf b
      simp_all
    simp [h]
    exact fun e => h2 (by rw [e])
end Go.Proofs.Ytpeecmfchnlmlaa
