/- Many texts put one by one; a store while a law goes on; how a slice of rows of bytes comes in. No condition. -/
import Derived.Test.YtenjhmlgimnnoaaAwake
import Derived.Deep.Matrix
namespace Go.Proofs.Ytenjhmlgimnnoaa
open Go.ChangeShapes Go.WideShapes Go.ChangeAt Go.RowKit Go.Deep
set_option maxRecDepth 4000
set_option linter.unusedVariables false
def puts (s : St) (ls : List (List Nat)) : St := ls.foldl (fun s l => (put s l).2) s
theorem puts_snoc (s : St) (ls : List (List Nat)) (l : List Nat) : puts s (ls ++ [l]) = (put (puts s ls) l).2 := by
  unfold puts
  rw [List.foldl_append]
  rfl
theorem take_snoc {α : Type} [Inhabited α] (ls : List α) (i : Nat) (d : α) (hi : i < ls.length) : ls.take (i + 1) = ls.take i ++ [ls.getD i d] := by
  rw [List.take_add_one, List.getElem?_eq_getElem hi]
  simp [List.getD_eq_getElem?_getD, hi]
theorem put_last (s : St) (l : List Nat) : s.last ≤ (put s l).2.last ∧ (put s l).2.last ≤ s.last + 1 := by
  unfold put
  split
  · split
    · exact ⟨Nat.le_refl _, Nat.le_succ _⟩
    · exact ⟨Nat.le_succ _, Nat.le_refl _⟩
  · exact ⟨Nat.le_refl _, Nat.le_succ _⟩
theorem puts_last (s : St) (ls : List (List Nat)) : (puts s ls).last ≤ s.last + ls.length := by
  induction ls generalizing s with
  | nil => exact Nat.le_refl _
  | cons l ls ih =>
    have h1 := ih (put s l).2
    have h2 := (put_last s l).2
    show (puts (put s l).2 ls).last ≤ _
    simp only [List.length_cons]
    omega
theorem byText_less {ps : Ps} {last : Nat} (h : Ok ps last) {n : Nat} {l : List Nat} (hp : (n, l) ∈ ps) : byText (without ps (n : Int)) l = none := by
  rw [byText_none]
  intro p hp' e
  have h1 := List.mem_filter.1 hp'
  have e1 := byText_mem h.txt hp
  have e2 := byText_mem h.txt h1.1
  rw [e] at e2
  simp only at e1
  rw [e1] at e2
  have e3 : n = p.1 := Option.some.inj e2
  have h2 := h1.2
  simp only [Bool.not_eq_true', decide_eq_false_iff_not] at h2
  exact h2 (by rw [e3])
theorem grid_of {H : Type} {enc : TypeId × Value → H} {w : World} {fuel : Nat} {a : Option Addr} {len cap : Nat} {x : DataW H × List MemPlace} (h : DataW.trod enc Try.prog w 0 (fun _ => true) true fuel 49 (Value.slice a len cap).cells.toList = some x) :
    ∃ ls : List (List Nat), ls.length = len ∧ Grid w a ls := by
  rcases open_int_rows Try.underlying49 Try.underlying27 Try.underlying5 (by kernel_rfl) (by kernel_rfl) h with ⟨hcs, _⟩ | ⟨y, l, c, A, L, C, Z, hcs, _, hl, hm, _, hr⟩
  · simp [Value.cells] at hcs
    obtain ⟨rfl, rfl, rfl⟩ := hcs
    exact ⟨[], rfl, .inl rfl⟩
  · simp [Value.cells] at hcs
    obtain ⟨rfl, rfl, rfl⟩ := hcs
    have hrow : ∀ r, ∃ l : List Nat, r < len → l.length = L r ∧ Row w (A r) l := by
      intro r
      by_cases hlt : r < len
      · obtain ⟨_, h2, h3, h4, h5, h6, h7⟩ := hr r (by omega)
        have hi : IsRow .u8 w (A r) (L r) (C r) (Z r) := by
          cases hA : A r with
          | none =>
            have := h6 hA
            exact .inl ⟨rfl, by omega, this, List.length_eq_zero_iff.1 (by omega)⟩
          | some z => exact .inr ⟨z, rfl, h2, h3, h4, fun i hi => (h7 z hA).2 i (by omega), h5⟩
        obtain ⟨l, hl1, hl2, _⟩ := bytes_of hi
        exact ⟨l, fun _ => ⟨hl1, hl2⟩⟩
      · exact ⟨[], fun h => absurd h hlt⟩
    obtain ⟨f, hf⟩ := Classical.axiomOfChoice hrow
    refine ⟨(List.range len).map f, by simp, ?_⟩
    by_cases h0 : len = 0
    · subst h0; exact .inl (by simp)
    · obtain ⟨b, off, spot⟩ := y
      have hc0 := (hr 0 (by omega)).1
      have hspot : spot = none := by simpa [Addr.add] using World.cell?_spot hc0
      subst hspot
      refine .inr ⟨b, off, rfl, ?_, fun i hi => ?_⟩
      · have := block_lt_of_cell hc0
        simpa [Addr.add] using this
      · have hi1 : i < len := by simpa using hi
        have hg : ((List.range len).map f).getD i [] = f i := by simp [hi1]
        have hadd : (⟨b, off, none⟩ : Addr).add i = ⟨b, off + i, none⟩ := by unfold Addr.add; split <;> simp_all
        have h1 := (hr i (by omega)).1
        rw [hadd] at h1
        obtain ⟨h2, h3⟩ := hf i hi1
        rw [hg, h2]
        exact ⟨A i, C i, h1, h3⟩
theorem grid_len {H : Type} {enc : TypeId × Value → H} {w : World} {fuel : Nat} {a : Option Addr} {len cap : Nat} {x : DataW H × List MemPlace} (h : DataW.trod enc Try.prog w 0 (fun _ => true) true fuel 49 (Value.slice a len cap).cells.toList = some x) : len ≤ maxLen := by
  rcases open_int_rows Try.underlying49 Try.underlying27 Try.underlying5 (by kernel_rfl) (by kernel_rfl) h with ⟨hcs, _⟩ | ⟨y, l, c, A, L, C, Z, hcs, _, hl, hm, _, hr⟩
  · simp [Value.cells] at hcs
    omega
  · simp [Value.cells] at hcs
    omega
/-- The i-th row. -/
theorem Grid.get {w : World} {a : Option Addr} {ls : List (List Nat)} (h : Grid w a ls) {i : Nat} (hi : i < ls.length) : ∃ b off, a = some ⟨b, off, none⟩ ∧ ∃ ai ci, w.cell? ⟨b, off + i, none⟩ = some (.slice ai (ls.getD i []).length ci) ∧ Row w ai (ls.getD i []) := by
  obtain ⟨b, off, ha, hc⟩ := h.at_ (by intro e; rw [e] at hi; simp at hi)
  exact ⟨b, off, ha, hc i hi⟩
/-- A number of a row of numbers. -/
theorem owns_cell {w : World} {base : Nat} {v : Value} {L : List Int} {n : Nat} (hn : L.length = n) (h : w.ownsRow base 3 1 v n (ivals L)) {i : Nat} (hi : i < n) : ∃ g cap, v = .slice (some ⟨g, 0, none⟩) n cap ∧ w.cell? ⟨g, i, none⟩ = some (.int .i64 (L.getD i 0)) ∧ g < w.heap.size := by
  subst hn
  rcases h.2 with ⟨_, h0⟩ | ⟨g, cap, cur, rfl, hb, hg, hc, hm, hs, ht⟩
  · rw [h0] at hi; exact absurd hi (Nat.not_lt_zero _)
  · refine ⟨g, cap, rfl, ?_, lt_of_some hg⟩
    rw [cell_of_row w g i cur 3 (0, 0) hg]
    have := ivals_get L i hi
    rw [← ht, Nat.mul_one, List.getElem?_take, if_pos hi] at this
    simpa using this
theorem owns_shape {w : World} {base t n : Nat} {v : Value} {xs : List Value} (h : w.ownsRow base t 1 v n xs) : ∃ a cap, v = .slice a n cap ∧ (n = 0 ∨ a ≠ none) := by
  rcases h.2 with ⟨rfl, rfl⟩ | ⟨g, cap, cur, rfl, _⟩
  · exact ⟨none, 0, rfl, .inl rfl⟩
  · exact ⟨_, cap, rfl, .inr (by simp)⟩
end Go.Proofs.Ytenjhmlgimnnoaa
