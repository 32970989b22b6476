/- What the program's Pen hands out: all that was written, in a row of its own; and the document's example: 'awake' answers true in every world. Condition: at most nine hundred million bytes. -/
import Derived.Test.YtenjhmlgimnnoaaPens
namespace Go.Proofs.Ytenjhmlgimnnoaa.Pen
open Go.RowKit Pen
theorem bytes_any {base : Nat} {w : World} {q : Nat} {o : Option Nat} {l : List Nat} (hne : l ≠ []) (hl : l.length ≤ 900000000) (h : PenAt base w q o l) :
    Calls Try.prog 32 #[.pointer (some ⟨q, 0, none⟩)] w fun e w' => ∃ g cap', e = .returned (.slice (some ⟨g, 0, none⟩) l.length cap') ∧ Row w' (some ⟨g, 0, none⟩) l ∧ Below w.heap.size w w' ∧ l.length ≤ cap' ∧ cap' ≤ maxLen := by
  obtain ⟨v, hv, hown, rfl, hq, hl2⟩ := h
  obtain ⟨g, cap, rfl, _, _⟩ := hown.form (List.length_pos_iff.2 hne)
  obtain ⟨a, c, e, h1, h2, h3⟩ := row_of_owns hown hl2
  simp at e
  obtain ⟨rfl, rfl⟩ := e
  have hc := hv.cell
  have kc := clone_any ⟨g, 0, none⟩ l l.length cap rfl h3 hne hl
  obtain ⟨n, hn⟩ : ∃ n, l.length = n := ⟨_, rfl⟩
  rw [hn] at kc hc ⊢
  clear hown hv hq hl2 h3
  go_enter Try.func32, Try.ntmps32
  go_wp2_with fail
  refine kc.mono ?_
  rintro e w1 ⟨g', cap', rfl, h5, h6, h7, h8⟩
  go_wp2_with fail
  go_ret
  exact ⟨g', cap', rfl, h5, h6, h7, h8⟩
theorem bytes_nil {base : Nat} {w : World} {q : Nat} (h : PenAt base w q none []) :
    Calls Try.prog 32 #[.pointer (some ⟨q, 0, none⟩)] w fun e w' => e = .returned (.slice none 0 0) ∧ w' = w := by
  obtain ⟨v, hv, hown, ho, hq, hl2⟩ := h
  have hv0 : v = .slice none 0 0 := by
    rcases hown.2 with ⟨rfl, _⟩ | ⟨g, cap, cur, rfl, _⟩
    · rfl
    · simp [Value.ownBlock] at ho
  subst hv0
  have hc := hv.cell
  have heq := eq_nil_none
  clear hown hv hq hl2 ho
  go_enter Try.func32, Try.ntmps32
  go_wp2
  go_ret
  exact ⟨rfl, rfl⟩
end Go.Proofs.Ytenjhmlgimnnoaa.Pen
