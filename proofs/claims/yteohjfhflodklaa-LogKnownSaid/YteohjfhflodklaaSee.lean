/- Plain mathematics: a text with its sum behind it, of which up to 32 bits one behind another are turned: the sum fits just where nothing was turned. No condition but the sizes named. -/
import Derived.Test.YteohjfhflodklaaLin
import Derived.Test.YteohjfhflodklaaNext
namespace Go.Proofs.Yteohjfhflodklaa.Crc

theorem cat8 (x y : Nat) (hx : x < 256) : x ^^^ 2 ^ 8 * y = 2 ^ 8 * y + x := by
  rw [Nat.xor_comm, ← split_xor 8 y x hx]
theorem word_four (c : Nat) (hc : c < 4294967296) : word (four c) = c := by
  show c % 256 ^^^ 2 ^ 8 * (c / 256 % 256 ^^^ 2 ^ 8 * (c / 65536 % 256 ^^^ 2 ^ 8 * (c / 16777216 ^^^ 2 ^ 8 * 0))) = c
  rw [cat8 _ _ (by omega), cat8 _ _ (by omega), cat8 _ _ (by omega), cat8 _ _ (by omega)]
  omega
theorem word_bit : ∀ (M : List Nat) (j r : Nat), j < M.length → word (M.set j (M.getD j 0 ^^^ 2 ^ r)) = word M ^^^ 2 ^ (8 * j + r)
  | [], j, r, h => by simp at h
  | x :: l, 0, r, _ => by
    show (x ^^^ 2 ^ r) ^^^ 2 ^ 8 * word l = (x ^^^ 2 ^ 8 * word l) ^^^ 2 ^ (8 * 0 + r)
    rw [Nat.mul_zero, Nat.zero_add, Nat.xor_assoc, Nat.xor_assoc, Nat.xor_comm (2 ^ r)]
  | x :: l, j + 1, r, h => by
    have ih := word_bit l j r (by simpa using h)
    show x ^^^ 2 ^ 8 * word (l.set j ((x :: l).getD (j + 1) 0 ^^^ 2 ^ r)) = (x ^^^ 2 ^ 8 * word l) ^^^ 2 ^ (8 * (j + 1) + r)
    have e : (x :: l).getD (j + 1) 0 = l.getD j 0 := by simp
    rw [e, ih, mul_pow_xor, ← Nat.pow_add, ← Nat.xor_assoc, show 8 + (8 * j + r) = 8 * (j + 1) + r by omega]
theorem mod_step_one (t i : Nat) (h : t / 2 ^ i % 2 = 1) : t % 2 ^ (i + 1) = t % 2 ^ i ^^^ 2 ^ i := by
  rw [Nat.mod_pow_succ, h, Nat.mul_one, Nat.add_comm, Nat.xor_comm]
  have := split_xor i 1 (t % 2 ^ i) (Nat.mod_lt _ (Nat.two_pow_pos i))
  rw [Nat.mul_one] at this
  exact this
theorem mod_step_zero (t i : Nat) (h : t / 2 ^ i % 2 = 0) : t % 2 ^ (i + 1) = t % 2 ^ i := by
  rw [Nat.mod_pow_succ, h, Nat.mul_zero, Nat.add_zero]
theorem shN_mul (n k t : Nat) (h : k ≤ n) : shN n (2 ^ k * t) = shN (n - k) t := by
  have e : n = k + (n - k) := by omega
  rw [e, shN_add, shN_pow]
  congr 1
  omega
theorem fit_iff (A B : List Nat) (hB : B.length = 4) (hA : ∀ x ∈ A, x < 256) (hb : ∀ x ∈ B, x < 256) : four (nx 0 A) = B ↔ run 4294967295 (A ++ B) = shN 32 4294967295 := by
  have hr : run 4294967295 A < 4294967296 := run_lt A (by decide) hA
  have hs : nx 0 A = run 4294967295 A ^^^ 4294967295 := flip_xor hr
  have hs2 := nx_lt 0 A
  have hwB : word B < 4294967296 := by
    have := word_lt B hb
    rw [hB] at this
    exact this
  rw [run_append, run_word B, hB]
  constructor
  · intro h
    have hw : word B = nx 0 A := by rw [← h, word_four _ hs2]
    rw [hw, hs, ← Nat.xor_assoc, Nat.xor_self, Nat.zero_xor]
  · intro h
    have h2 := shN_inj 32 (Nat.xor_lt_two_pow (n := 32) hr hwB) (by decide) h
    apply word_inj _ _ (by rw [hB]; rfl) (four_lt hs2) hb
    rw [word_four _ hs2, hs]
    generalize run 4294967295 A = R at h2
    rw [← h2, ← Nat.xor_assoc, Nat.xor_self, Nat.zero_xor]
theorem sees (l M : List Nat) (k i turn : Nat) (hl : ∀ x ∈ l, x < 256) (hM : ∀ x ∈ M, x < 256) (hlen : M.length = l.length + 4) (hi : i ≤ 32) (hk : k + i ≤ 8 * (l.length + 4))
    (hw : word M = word (l ++ four (nx 0 l)) ^^^ 2 ^ k * (turn % 2 ^ i)) : four (nx 0 (M.take l.length)) = M.drop l.length ↔ M = l ++ four (nx 0 l) := by
  have hX : ∀ x ∈ l ++ four (nx 0 l), x < 256 := by
    intro x hx
    rcases List.mem_append.1 hx with h | h
    · exact hl x h
    · exact four_lt (nx_lt 0 l) x h
  have hXl : (l ++ four (nx 0 l)).length = l.length + 4 := by rw [List.length_append]; rfl
  have h0 : run 4294967295 (l ++ four (nx 0 l)) = shN 32 4294967295 := (fit_iff l (four (nx 0 l)) rfl hl (four_lt (nx_lt 0 l))).1 rfl
  have hD : (M.drop l.length).length = 4 := by rw [List.length_drop]; omega
  rw [fit_iff (M.take l.length) (M.drop l.length) hD (fun x hx => hM x (List.mem_of_mem_take hx)) (fun x hx => hM x (List.mem_of_mem_drop hx)), List.take_append_drop, ← h0, run_word, run_word, hlen, hXl, shN_xor, shN_xor]
  constructor
  · intro h
    have h2 : shN (8 * (l.length + 4)) (word M) = shN (8 * (l.length + 4)) (word (l ++ four (nx 0 l))) := by
      have := congrArg (shN (8 * (l.length + 4)) 4294967295 ^^^ ·) h
      simpa [← Nat.xor_assoc] using this
    rw [hw, shN_xor] at h2
    have h3 : shN (8 * (l.length + 4)) (2 ^ k * (turn % 2 ^ i)) = 0 := by
      have := congrArg (shN (8 * (l.length + 4)) (word (l ++ four (nx 0 l))) ^^^ ·) h2
      simpa [← Nat.xor_assoc] using this
    rw [shN_mul _ _ _ (by omega)] at h3
    have hb : turn % 2 ^ i < 4294967296 := Nat.lt_of_lt_of_le (Nat.mod_lt _ (Nat.two_pow_pos i)) (Nat.pow_le_pow_right (n := 2) (by omega) hi)
    have h4 := shN_zero _ hb h3
    rw [h4, Nat.mul_zero, Nat.xor_zero] at hw
    exact word_inj _ _ (by rw [hlen, hXl]) hM hX hw
  · intro h
    rw [h]
theorem eq_parts (l M t : List Nat) : M = l ++ t ↔ M.take l.length = l ∧ M.drop l.length = t := by
  constructor
  · intro h
    rw [h]
    simp
  · rintro ⟨h1, h2⟩
    rw [← List.take_append_drop l.length M, h1, h2]
end Go.Proofs.Yteohjfhflodklaa.Crc
