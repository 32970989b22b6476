/- What the program's Pen hands out: all that was written, in a row of its own; and the document's example: 'awake' answers true in every world. Condition: at most nine hundred million bytes. -/
import Derived.Test.YtmfmhlhpleahpaaPens
namespace Go.Proofs.Ytmfmhlhpleahpaa.Pen
open Go.RowKit Pen
theorem eq_nil_some (w : World) (ad : Addr) (n cap : Nat) : (binOp .eql 35 (.slice (some ad) n cap) (.slice none 0 0)).run Try.prog w = .ok (.bool false) w := by kernel_rfl
theorem eq_nil_none (w : World) : (binOp .eql 35 (.slice none 0 0) (.slice none 0 0)).run Try.prog w = .ok (.bool true) w := by kernel_rfl
theorem owns_empty (w : World) : (w.alloc (.cells #[] 5)).ownsRow w.heap.size 5 1 (.slice (some ⟨w.heap.size, 0, none⟩) 0 0) 0 (vals []) :=
  ⟨rfl, .inr ⟨w.heap.size, 0, #[], rfl, Nat.le_refl _, heap_alloc_new _ _, Nat.le_refl _, Nat.zero_le _, rfl, rfl⟩⟩
set_option maxHeartbeats 1000000 in
theorem clone_any {w : World} (ad : Addr) (l : List Nat) (n cap : Nat) (hn : l.length = n) (hr : Row w (some ad) l) (hne : l ≠ []) (hl : l.length ≤ 900000000) :
    Calls Try.prog 51 #[.slice (some ad) n cap] w fun e w' => ∃ g cap', e = .returned (.slice (some ⟨g, 0, none⟩) n cap') ∧ Row w' (some ⟨g, 0, none⟩) l ∧ Below w.heap.size w w' ∧ n ≤ cap' ∧ cap' ≤ maxLen := by
  have HN : Hid (l.length = n) := hn
  have HR : Hid (Row (w.alloc (.cells #[] 5)) (some ad) l) := hr.below ((Below.refl _ w).alloc (Nat.le_refl _) _)
  have HOW : Hid ((w.alloc (.cells #[] 5)).ownsRow w.heap.size 5 1 (.slice (some ⟨w.heap.size, 0, none⟩) 0 0) ([] : List Nat).length (vals [])) := owns_empty w
  have HS : Hid (([] : List Nat).length + l.length ≤ 1000000000) := by show _ ≤ _; simp; omega
  have HB : Hid (w.heap.size ≤ (w.alloc (.cells #[] 5)).heap.size) := by show _ ≤ _; simp
  have hlt := hr.1
  have heq := fun w => eq_nil_some w ad n cap
  clear hn hr
  go_enter Try.func51, Try.ntmps51
  have tok : True := trivial
  go_wp2_with (at_builtin; have _t := tok; refine wpList_append_row _ rfl _ _ rfl w.heap.size (.slice (some ⟨w.heap.size, 0, none⟩) 0 0) [] rfl HOW.out _ l n cap rfl HN.out HR.out hne HS.out HB.out ?_; intro g m cap' w1 hm hown1 hg1 hat; rw [List.nil_append] at hm hown1; have HX := hid hown1; have HG := hid hg1; have HM := hid hm; clear tok hm hown1 hg1 hat)
  go_ret
  have e1 := HM.out
  subst e1
  obtain ⟨a, c, e, h1, h2, h3⟩ := row_of_owns HX.out hlt
  simp at e
  obtain ⟨rfl, rfl⟩ := e
  have hb := ((Below.refl w.heap.size w).alloc (Nat.le_refl _) (.cells #[] 5)).grown HG.out HB.out (fun k hk => by simp [Value.ownBlock] at hk; omega)
  exact ⟨g, cap', by rw [← HN.out]; rfl, h3, hb, by rw [← HN.out]; exact h1, h2⟩
theorem bytes_any {base : Nat} {w : World} {q : Nat} {o : Option Nat} {l : List Nat} (hne : l ≠ []) (hl : l.length ≤ 900000000) (h : PenAt base w q o l) :
    Calls Try.prog 44 #[.pointer (some ⟨q, 0, none⟩)] w fun e w' => ∃ g cap', e = .returned (.slice (some ⟨g, 0, none⟩) l.length cap') ∧ Row w' (some ⟨g, 0, none⟩) l ∧ Below w.heap.size w w' ∧ l.length ≤ cap' ∧ cap' ≤ maxLen := by
  obtain ⟨v, hv, hown, rfl, hq, hl2⟩ := h
  obtain ⟨g, cap, rfl, _, _⟩ := hown.form (List.length_pos_iff.2 hne)
  obtain ⟨a, c, e, h1, h2, h3⟩ := row_of_owns hown hl2
  simp at e
  obtain ⟨rfl, rfl⟩ := e
  have hc := hv.cell
  have kc := clone_any ⟨g, 0, none⟩ l l.length cap rfl h3 hne hl
  obtain ⟨n, hn⟩ : ∃ n, l.length = n := ⟨_, rfl⟩
  rw [hn] at kc hc ⊢
  clear hown hv hq hl2 h3
  go_enter Try.func44, Try.ntmps44
  go_wp2_with fail
  refine kc.mono ?_
  rintro e w1 ⟨g', cap', rfl, h5, h6, h7, h8⟩
  go_wp2_with fail
  go_ret
  exact ⟨g', cap', rfl, h5, h6, h7, h8⟩
theorem bytes_nil {base : Nat} {w : World} {q : Nat} (h : PenAt base w q none []) :
    Calls Try.prog 44 #[.pointer (some ⟨q, 0, none⟩)] w fun e w' => e = .returned (.slice none 0 0) ∧ w' = w := by
  obtain ⟨v, hv, hown, ho, hq, hl2⟩ := h
  have hv0 : v = .slice none 0 0 := by
    rcases hown.2 with ⟨rfl, _⟩ | ⟨g, cap, cur, rfl, _⟩
    · rfl
    · simp [Value.ownBlock] at ho
  subst hv0
  have hc := hv.cell
  have heq := eq_nil_none
  clear hown hv hq hl2 ho
  go_enter Try.func44, Try.ntmps44
  go_wp2
  go_ret
  exact ⟨rfl, rfl⟩
end Go.Proofs.Ytmfmhlhpleahpaa.Pen
