/- A slot's bytes of which up to four one behind another are turned are none. No condition. -/
import Derived.Test.YtmfmhlhpleahpaaSupP
namespace Go.Proofs.Ytmfmhlhpleahpaa
open Go.RowKit Pen
open Crc (four nx run)
theorem ext_getD {l m : List Nat} (h : l.length = m.length) (e : ∀ j, j < l.length → l.getD j 0 = m.getD j 0) : l = m := by
  apply List.ext_getElem?
  intro j
  by_cases hj : j < l.length
  · have := e j hj
    rw [List.getD_eq_getElem?_getD, List.getD_eq_getElem?_getD, List.getElem?_eq_getElem hj, List.getElem?_eq_getElem (by omega)] at this
    rw [List.getElem?_eq_getElem hj, List.getElem?_eq_getElem (by omega)]
    exact congrArg some this
  · rw [List.getElem?_eq_none (by omega), List.getElem?_eq_none (by omega)]
theorem getD_take (l : List Nat) (a j : Nat) (h : j < a) : (l.take a).getD j 0 = l.getD j 0 := by
  simp only [List.getD_eq_getElem?_getD, List.getElem?_take, if_pos h]
theorem getD_drop (l : List Nat) (a j : Nat) : (l.drop a).getD j 0 = l.getD (a + j) 0 := by
  simp only [List.getD_eq_getElem?_getD, List.getElem?_drop]
/-- They are unlike at most in four one behind another, from a on. -/
def Near (a : Nat) (l m : List Nat) : Prop := l.length = m.length ∧ ∀ j, j < l.length → l.getD j 0 ≠ m.getD j 0 → a ≤ j ∧ j < a + 4
theorem Near.parts {a : Nat} {l m : List Nat} (h : Near a l m) : l.take a = m.take a ∧ l.drop (a + 4) = m.drop (a + 4) := by
  have hl := h.1
  constructor
  · refine ext_getD (by simp; omega) (fun j hj => ?_)
    have hj' : j < a ∧ j < l.length := by simp at hj; omega
    rw [getD_take _ _ _ hj'.1, getD_take _ _ _ hj'.1]
    by_cases e : l.getD j 0 = m.getD j 0
    · exact e
    · have := h.2 j hj'.2 e; omega
  · refine ext_getD (by simp; omega) (fun j hj => ?_)
    have hj' : a + 4 + j < l.length := by simp at hj; omega
    rw [getD_drop, getD_drop]
    by_cases e : l.getD (a + 4 + j) 0 = m.getD (a + 4 + j) 0
    · exact e
    · have := h.2 _ hj' e; omega
theorem fits_run {l : List Nat} (h : ∀ x ∈ l, x < 256) : run 4294967295 (summed l) = Crc.shN 32 4294967295 := by
  unfold summed
  exact (Crc.fit_iff (pad l) (four (nx 0 (pad l))) rfl (pad_lt h) (Crc.four_lt (Crc.nx_lt _ _))).1 rfl
theorem near_run {a : Nat} {l m : List Nat} (h : Near a l m) (hl : ∀ x ∈ l, x < 256) (hm : ∀ x ∈ m, x < 256) (e : run 4294967295 l = run 4294967295 m) : l = m := by
  obtain ⟨h1, h2⟩ := h.parts
  have d1 : l = l.take a ++ ((l.drop a).take 4 ++ l.drop (a + 4)) := by rw [← List.drop_drop, List.take_append_drop, List.take_append_drop]
  have d2 : m = l.take a ++ ((m.drop a).take 4 ++ l.drop (a + 4)) := by rw [h1, h2, ← List.drop_drop, List.take_append_drop, List.take_append_drop]
  rw [d1, d2, Crc.run_append, Crc.run_append, Crc.run_append, Crc.run_append] at e
  have p256 : ∀ x ∈ l.take a, x < 256 := fun x hx => hl x (List.mem_of_mem_take hx)
  have u256 : ∀ x ∈ (l.drop a).take 4, x < 256 := fun x hx => hl x (List.mem_of_mem_drop (List.mem_of_mem_take hx))
  have v256 : ∀ x ∈ (m.drop a).take 4, x < 256 := fun x hx => hm x (List.mem_of_mem_drop (List.mem_of_mem_take hx))
  have hp := Crc.run_lt (l.take a) (c := 4294967295) (by decide) p256
  have e2 := Crc.run_inj (l.drop (a + 4)) (Crc.run_lt _ hp u256) (Crc.run_lt _ hp v256) e
  have hlen := h.1
  have e3 := Crc.run_inj_text ((l.drop a).take 4) ((m.drop a).take 4) (by simp; omega) (by simp; omega) u256 v256 e2
  rw [d1, e3, ← d2]
/-- The byte of a slot that is the byte j of its text. -/
theorem mid_get {s : Sp} (h : s.Ok 96) (i m : Nat) (hi : i < 4) (hm : m < 56) : s.bytes.getD (64 * i + (4 + m)) 0 = (summed s.told).getD (56 * i + m) 0 := by
  have hl := summed_len (l := s.told) (by have := told_len h; omega)
  have e := packs_piece (four s.number.toNat) rfl 4 i (summed s.told) hl hi
  have e1 : (piece s.bytes i).getD (4 + m) 0 = s.bytes.getD (64 * i + (4 + m)) 0 := by
    unfold piece
    rw [getD_take _ _ _ (by omega), getD_drop]
  rw [← e1]
  show (((packs 4 (four s.number.toNat) (summed s.told)).drop (64 * i)).take 64).getD (4 + m) 0 = _
  rw [e, List.getD_eq_getElem?_getD, List.getElem?_append_right (by rw [four_len]; omega), four_len, show 4 + m - 4 = m by omega, List.getElem?_append_left (by simp; omega), ← List.getD_eq_getElem?_getD, getD_take _ _ _ hm, getD_drop]
theorem end_get {s : Sp} (h : s.Ok 96) (j : Nat) (hj : j < 4) : s.bytes.getD j 0 = (four s.number.toNat).getD j 0 ∧ s.bytes.getD (252 + j) 0 = (four s.number.toNat).getD j 0 := by
  obtain ⟨m, hm, e⟩ := piece_ends h 0 (by decide)
  obtain ⟨m3, hm3, e3⟩ := piece_ends h 3 (by decide)
  constructor
  · have e1 : (piece s.bytes 0).getD j 0 = s.bytes.getD j 0 := by
      unfold piece
      rw [getD_take _ _ _ (by omega), getD_drop, show 64 * 0 + j = j by omega]
    rw [← e1, e, List.getD_eq_getElem?_getD, List.getElem?_append_left (by rw [four_len]; exact hj), ← List.getD_eq_getElem?_getD]
  · have e1 : (piece s.bytes 3).getD (60 + j) 0 = s.bytes.getD (252 + j) 0 := by
      unfold piece
      rw [getD_take _ _ _ (by omega), getD_drop, show 64 * 3 + (60 + j) = 252 + j by omega]
    rw [← e1, e3, List.getD_eq_getElem?_getD, List.getElem?_append_right (by rw [four_len]; omega), four_len, List.getElem?_append_right (by rw [hm3]; omega), hm3, show 60 + j - 4 - 56 = j by omega, ← List.getD_eq_getElem?_getD]
theorem near_slot {a : Nat} {s t : Sp} (hs : s.Ok 96) (ht : t.Ok 96) (s1 : s.j.last < 4294967296) (s2 : s.c.last < 4294967296) (t1 : t.j.last < 4294967296) (t2 : t.c.last < 4294967296) (h : Near a s.bytes t.bytes) : s = t := by
  have ls := bytes_len hs
  have lt := bytes_len ht
  have same : ∀ j, j < 256 → ¬ (a ≤ j ∧ j < a + 4) → s.bytes.getD j 0 = t.bytes.getD j 0 := fun j hj hn => by
    by_cases e : s.bytes.getD j 0 = t.bytes.getD j 0
    · exact e
    · exact absurd (h.2 j (by omega) e) hn
  have hN : four s.number.toNat = four t.number.toNat := by
    refine ext_getD rfl (fun j hj => ?_)
    rw [four_len] at hj
    by_cases ha : 4 ≤ a
    · rw [← (end_get hs j hj).1, ← (end_get ht j hj).1]
      exact same j (by omega) (by omega)
    · rw [← (end_get hs j hj).2, ← (end_get ht j hj).2]
      exact same (252 + j) (by omega) (by omega)
  have hls := summed_len (l := s.told) (by have := told_len hs; omega)
  have hlt := summed_len (l := t.told) (by have := told_len ht; omega)
  have hT : Near (56 * (a / 64) + (a % 64 - 4)) (summed s.told) (summed t.told) := by
    refine ⟨by rw [hls, hlt], fun j hj hne => ?_⟩
    rw [hls] at hj
    have hj1 : j / 56 < 4 := by omega
    have hj2 : j % 56 < 56 := by omega
    have hx : ¬ s.bytes.getD (64 * (j / 56) + (4 + j % 56)) 0 = t.bytes.getD (64 * (j / 56) + (4 + j % 56)) 0 := by
      rw [mid_get hs _ _ hj1 hj2, mid_get ht _ _ hj1 hj2, show 56 * (j / 56) + j % 56 = j by omega]
      exact hne
    have := h.2 _ (by omega) hx
    omega
  have hsum := near_run hT (summed_lt (told_lt hs s1 s2)) (summed_lt (told_lt ht t1 t2)) ((fits_run (told_lt hs s1 s2)).trans (fits_run (told_lt ht t1 t2)).symm)
  have hb : s.bytes = t.bytes := by
    unfold Sp.bytes
    rw [hN, hsum]
  rw [← heard_bytes hs s1 s2, hb, heard_bytes ht t1 t2]
/-- Bytes that are near a slot's, and not its own, are none. -/
theorem near_none {a : Nat} {s : Sp} (hs : s.Ok 96) (s1 : s.j.last < 4294967296) (s2 : s.c.last < 4294967296) {X : List Nat} (hX : ∀ x ∈ X, x < 256) (h : Near a s.bytes X) (hne : X ≠ s.bytes) (k : Int) : parse X k = none := by
  cases hp : parse X k with
  | none => rfl
  | some t =>
    obtain ⟨ht, hb, hh⟩ := parse_some hp
    have hk := heard_ok X hX
    rw [← hh] at hk
    have := near_slot hs ht s1 s2 hk.1 hk.2.1 (by rw [hb]; exact h)
    exact absurd (by rw [← hb, this]) hne
end Go.Proofs.Ytmfmhlhpleahpaa
