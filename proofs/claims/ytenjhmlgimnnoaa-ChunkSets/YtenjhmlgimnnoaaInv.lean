/- Numbers and texts as bytes: what is read as one is just its bytes. No condition. -/
import Derived.Test.YtenjhmlgimnnoaaAwake
namespace Go.Proofs.Ytenjhmlgimnnoaa
open Pen
theorem eNum_inv (f : Nat) : ∀ (i acc : Nat) (l : List Nat) (n : Nat) (r : List Nat), (∀ x ∈ l, x < 256) → eNum f i acc l = (n, r, false) → ∃ m, l = num m ++ r ∧ n = acc + m * 2 ^ (7 * i) ∧ (0 < m ∨ i = 0) := by
  induction f with
  | zero => intro i acc l n r _ h; simp [eNum] at h
  | succ f ih =>
    intro i acc l n r hl h
    rw [eNum] at h
    cases l with
    | nil =>
      simp only [List.getD_nil, List.tail_nil, List.isEmpty_nil] at h
      rw [if_neg (by decide)] at h
      split at h <;> simp at h
    | cons x t =>
      have hx := hl x (by simp)
      simp only [List.getD_cons_zero, List.tail_cons, List.isEmpty_cons] at h
      by_cases h1 : 128 ≤ x
      · rw [if_pos h1] at h
        obtain ⟨m, e1, e2, e3⟩ := ih (i + 1) _ t n r (fun y hy => hl y (by simp [hy])) h
        have hm : 0 < m := by omega
        refine ⟨x % 128 + 128 * m, ?_, ?_, .inl (by omega)⟩
        · rw [num_big (by omega)]
          have a1 : (x % 128 + 128 * m) % 128 + 128 = x := by omega
          have a2 : (x % 128 + 128 * m) / 128 = m := by omega
          rw [a1, a2, e1]
          rfl
        · rw [e2, pow7, Nat.add_mul, Nat.mul_comm 128 m, Nat.mul_assoc, Nat.add_assoc]
      · rw [if_neg h1] at h
        split at h
        · simp at h
        · next h2 =>
          simp only [Prod.mk.injEq, and_true] at h
          obtain ⟨rfl, rfl⟩ := h
          refine ⟨x, by rw [num_small (by omega)]; rfl, by rw [Nat.mod_eq_of_lt (by omega)], ?_⟩
          omega
theorem parse_inv {l : List Nat} (hl : ∀ x ∈ l, x < 256) {n : Nat} {b : List Nat} (h : parse l = some (n, b)) : num n ++ text b = l ∧ n ≤ 4611686018427387904 := by
  unfold parse at h
  split at h
  · cases h
  · next hno =>
    have hle := eNum_le 9 0 0 l
    simp only [not_or, Bool.not_eq_true] at hno
    obtain ⟨b1, b2, b3⟩ := hno
    have hlt := eNum_lt hl
    obtain ⟨⟨x1, x2, x3⟩, hx⟩ : ∃ x, eNum 9 0 0 l = x := ⟨_, rfl⟩
    rw [hx] at h b1 b2 b3 hle hlt
    simp only at h b1 b2 b3 hle hlt
    subst b1
    simp only [Option.some.injEq, Prod.mk.injEq] at h
    obtain ⟨rfl, hb⟩ := h
    obtain ⟨m, e1, e2, _⟩ := eNum_inv 9 0 0 l _ _ hl hx
    have em : m = x1 := by omega
    subst em
    refine ⟨?_, hle⟩
    rw [e1]
    congr 1
    unfold eText at hb b2 b3
    obtain ⟨⟨y1, y2, y3⟩, hy⟩ : ∃ y, eNum 9 0 0 x2 = y := ⟨_, rfl⟩
    rw [hy] at hb b2 b3
    simp only [Bool.or_eq_false_iff] at hb b2 b3
    obtain ⟨b2, b4⟩ := b2
    subst b2
    obtain ⟨k, f1, f2, _⟩ := eNum_inv 9 0 0 x2 _ _ hlt hy
    have ek : k = y1 := by omega
    subst ek
    unfold eTake at hb b3 b4
    by_cases hk : y2.length < k
    · rw [if_pos hk] at b4
      simp at b4
    · rw [if_neg hk] at hb b3
      simp only [List.length_drop] at b3
      have hlen : y2.length = k := by omega
      simp only at hb
      rw [List.take_of_length_le (by omega)] at hb
      subst hb
      rw [text, hlen, f1]
theorem parse_rec (n : Nat) (b : List Nat) (hn : n ≤ 4611686018427387904) (hb : b.length ≤ 4611686018427387904) : parse (num n ++ text b) = some (n, b) := by
  unfold parse
  rw [eNum_read n (text b) hn]
  have h := eText_read b [] hb
  rw [List.append_nil] at h
  simp only
  rw [h]
  simp
end Go.Proofs.Ytenjhmlgimnnoaa
