/- Plain mathematics of numbers, floats and texts as bytes, over natural numbers: what is written is read again; a number has one row of bytes alone. No condition. -/
namespace Go.Proofs.Yteohjfhflodklaa.Pen

/-- A number as bytes: seven bits a byte, the lowest first. -/
def num (n : Nat) : List Nat := if n < 128 then [n] else (n % 128 + 128) :: num (n / 128)
theorem num_small {n : Nat} (h : n < 128) : num n = [n] := by rw [num, if_pos h]
theorem num_big {n : Nat} (h : 128 ≤ n) : num n = (n % 128 + 128) :: num (n / 128) := by rw [num, if_neg (by omega)]
theorem num_lt (n : Nat) : ∀ x ∈ num n, x < 256 := by
  induction n using Nat.strongRecOn with
  | _ n ih =>
    by_cases h : n < 128
    · rw [num_small h]; intro x hx; simp at hx; omega
    · rw [num_big (by omega)]
      intro x hx
      rcases List.mem_cons.1 hx with h1 | h1
      · omega
      · exact ih (n / 128) (by omega) x h1
theorem num_len_pos (n : Nat) : 0 < (num n).length := by
  by_cases h : n < 128
  · rw [num_small h]; simp
  · rw [num_big (by omega)]; simp
theorem num_ne (n : Nat) : num n ≠ [] := fun h => by have := num_len_pos n; rw [h] at this; simp at this
theorem num_len (k : Nat) : ∀ n, n < 128 ^ (k + 1) → (num n).length ≤ k + 1 := by
  induction k with
  | zero => intro n h; rw [num_small (by simpa using h)]; simp
  | succ k ih =>
    intro n h
    by_cases h1 : n < 128
    · rw [num_small h1]; simp
    · rw [num_big (by omega), List.length_cons]
      have := ih (n / 128) (by rw [Nat.pow_succ] at h; omega)
      omega
theorem num_len10 (n : Nat) (h : n < 9223372036854775808) : (num n).length ≤ 10 := num_len 9 n (Nat.lt_trans h (by decide))

/-- A float's bits as bytes: the lowest first. -/
def fltN : Nat → Nat → List Nat
  | 0, _ => []
  | k + 1, b => b % 256 :: fltN k (b / 256)
def flt (b : Nat) : List Nat := fltN 8 b
theorem fltN_len (k : Nat) : ∀ b, (fltN k b).length = k := by
  induction k with
  | zero => intro b; rfl
  | succ k ih => intro b; simp [fltN, ih]
theorem flt_len (b : Nat) : (flt b).length = 8 := fltN_len 8 b
theorem fltN_lt (k : Nat) : ∀ b, ∀ x ∈ fltN k b, x < 256 := by
  induction k with
  | zero => intro b x hx; simp [fltN] at hx
  | succ k ih =>
    intro b x hx
    rcases List.mem_cons.1 hx with h | h
    · omega
    · exact ih _ x h
theorem flt_lt (b : Nat) : ∀ x ∈ flt b, x < 256 := fltN_lt 8 b
theorem fltN_take (k j b : Nat) (h : j ≤ k) : (fltN k b).take j = fltN j b := by
  induction k generalizing j b with
  | zero => obtain rfl : j = 0 := by omega
            rfl
  | succ k ih =>
    cases j with
    | zero => rfl
    | succ j => simp [fltN, ih j (b / 256) (by omega)]
theorem fltN_snoc (k : Nat) : ∀ b, fltN (k + 1) b = fltN k b ++ [b / 256 ^ k % 256] := by
  induction k with
  | zero => intro b; simp [fltN]
  | succ k ih =>
    intro b
    rw [fltN, ih (b / 256)]
    simp only [fltN, List.cons_append]
    rw [Nat.div_div_eq_div_mul, Nat.pow_succ, Nat.mul_comm 256]

/-- Bytes as a number: the lowest first. -/
def le : List Nat → Nat
  | [] => 0
  | x :: r => x + 256 * le r
theorem le_fltN (k : Nat) : ∀ b, le (fltN k b) = b % 256 ^ k := by
  induction k with
  | zero => intro b; simp [fltN, le, Nat.mod_one]
  | succ k ih =>
    intro b
    rw [fltN, le, ih, Nat.pow_succ, Nat.mul_comm (256 ^ k), Nat.mod_mul]
theorem le_flt (b : Nat) (h : b < 18446744073709551616) : le (flt b) = b := by
  rw [flt, le_fltN]
  exact Nat.mod_eq_of_lt (Nat.lt_of_lt_of_le h (by decide))
theorem le_lt (l : List Nat) (h : ∀ x ∈ l, x < 256) : le l < 256 ^ l.length := by
  induction l with
  | nil => simp [le]
  | cons x r ih =>
    have h1 := h x (by simp)
    have h2 := ih fun y hy => h y (by simp [hy])
    rw [le, List.length_cons, Nat.pow_succ]
    omega
theorem le_snoc (l : List Nat) (x : Nat) : le (l ++ [x]) = le l + x * 256 ^ l.length := by
  induction l with
  | nil => simp [le]
  | cons y r ih =>
    rw [List.cons_append, le, le, ih, List.length_cons, Nat.pow_succ, Nat.mul_add, Nat.add_assoc]
    congr 2
    rw [Nat.mul_comm 256, Nat.mul_assoc]
theorem le_take (l : List Nat) (i : Nat) (h : i < l.length) : le (l.take (i + 1)) = le (l.take i) + l.getD i 0 * 256 ^ i := by
  rw [List.take_succ_eq_append_getElem h, le_snoc, List.getD_eq_getElem?_getD, List.getElem?_eq_getElem h, List.length_take, Nat.min_eq_left (by omega)]
  rfl
theorem le_drop (l : List Nat) (i : Nat) (h : i < l.length) : le (l.drop i) = l.getD i 0 + 256 * le (l.drop (i + 1)) := by
  rw [List.drop_eq_getElem_cons h, le, List.getD_eq_getElem?_getD, List.getElem?_eq_getElem h]
  rfl

/-- What an Eye reads: the answer, what is left, whether it failed. -/
def eByte (l : List Nat) : Nat × List Nat × Bool := (l.getD 0 0, l.tail, l.isEmpty)
def eTake (n : Nat) (l : List Nat) : List Nat × List Nat × Bool := if l.length < n then ([], [], true) else (l.take n, l.drop n, false)
def eNum : Nat → Nat → Nat → List Nat → Nat × List Nat × Bool
  | 0, _, _, _ => (0, [], true)
  | f + 1, i, n, l =>
    if 128 ≤ l.getD 0 0 then eNum f (i + 1) (n + l.getD 0 0 % 128 * 2 ^ (7 * i)) l.tail
    else if (l.getD 0 0 = 0 ∧ 0 < i) ∨ 4611686018427387904 < n + l.getD 0 0 % 128 * 2 ^ (7 * i) then (0, [], true)
    else (n + l.getD 0 0 % 128 * 2 ^ (7 * i), l.tail, l.isEmpty)
def eFlt (l : List Nat) : Nat × List Nat × Bool := (le (eTake 8 l).1, (eTake 8 l).2.1, (eTake 8 l).2.2)
def eText (l : List Nat) : List Nat × List Nat × Bool :=
  ((eTake (eNum 9 0 0 l).1 (eNum 9 0 0 l).2.1).1, (eTake (eNum 9 0 0 l).1 (eNum 9 0 0 l).2.1).2.1, (eNum 9 0 0 l).2.2 || (eTake (eNum 9 0 0 l).1 (eNum 9 0 0 l).2.1).2.2)
theorem eNum_le (f : Nat) : ∀ i n l, (eNum f i n l).1 ≤ 4611686018427387904 := by
  induction f with
  | zero => intro i n l; simp [eNum]
  | succ f ih =>
    intro i n l
    rw [eNum]
    split
    · exact ih _ _ _
    · split
      · simp
      · simp only []; omega
theorem eNum_bad (f : Nat) : ∀ i n l, (eNum f i n l).2.2 = true → (eNum f i n l).2.1 = [] := by
  induction f with
  | zero => intro i n l _; simp [eNum]
  | succ f ih =>
    intro i n l
    rw [eNum]
    split
    · exact ih _ _ _
    · split
      · simp
      · cases l <;> simp
theorem eNum_sub (f : Nat) : ∀ i n l, ∃ k, (eNum f i n l).2.1 = l.drop k := by
  induction f with
  | zero => intro i n l; exact ⟨l.length, by simp [eNum]⟩
  | succ f ih =>
    intro i n l
    rw [eNum]
    split
    · obtain ⟨k, hk⟩ := ih (i + 1) (n + l.getD 0 0 % 128 * 2 ^ (7 * i)) l.tail
      exact ⟨k + 1, by rw [hk]; cases l <;> simp⟩
    · split
      · exact ⟨l.length, by simp⟩
      · exact ⟨1, by simp⟩
theorem eNum_nil : eNum 9 0 0 [] = (0, [], true) := by decide +kernel
theorem pow7 (i : Nat) : 2 ^ (7 * (i + 1)) = 128 * 2 ^ (7 * i) := by rw [Nat.mul_add, Nat.pow_add]; omega
theorem eNum_num (m : Nat) : ∀ f i acc r, i + f = 9 → acc < 2 ^ (7 * i) → (0 < m ∨ i = 0) → acc + m * 2 ^ (7 * i) < 9223372036854775808 →
    eNum f i acc (num m ++ r) = if acc + m * 2 ^ (7 * i) ≤ 4611686018427387904 then (acc + m * 2 ^ (7 * i), r, false) else (0, [], true) := by
  induction m using Nat.strongRecOn with
  | _ m ih =>
    intro f i acc r hf ha hm hs
    cases f with
    | zero =>
      exfalso
      obtain rfl : i = 9 := by omega
      have h0 : 0 < m := by omega
      have h1 : m * 2 ^ (7 * 9) ≥ 1 * 2 ^ (7 * 9) := Nat.mul_le_mul_right _ h0
      have h2 : (2 : Nat) ^ (7 * 9) = 9223372036854775808 := by decide
      omega
    | succ f =>
      rw [eNum]
      by_cases h : m < 128
      · rw [num_small h]
        have e1 : ([m] ++ r).getD 0 0 = m := rfl
        have e2 : ([m] ++ r).tail = r := rfl
        have e3 : ([m] ++ r).isEmpty = false := rfl
        rw [e1, e2, e3, if_neg (by omega), Nat.mod_eq_of_lt h]
        by_cases h2 : acc + m * 2 ^ (7 * i) ≤ 4611686018427387904
        · rw [if_pos h2, if_neg (by omega)]
        · rw [if_neg h2, if_pos (by omega)]
      · rw [num_big (by omega)]
        have e1 : ((m % 128 + 128) :: num (m / 128) ++ r).getD 0 0 = m % 128 + 128 := rfl
        have e2 : ((m % 128 + 128) :: num (m / 128) ++ r).tail = num (m / 128) ++ r := rfl
        rw [e1, e2, if_pos (by omega), show (m % 128 + 128) % 128 = m % 128 by omega]
        have hp := pow7 i
        obtain ⟨P, hP⟩ : ∃ P, 2 ^ (7 * i) = P := ⟨_, rfl⟩
        have hmm : m * P = m % 128 * P + m / 128 * (128 * P) := by
          conv => lhs; rw [← Nat.mod_add_div m 128]
          rw [Nat.add_mul, Nat.mul_comm 128 (m / 128), Nat.mul_assoc]
        have hlt : m % 128 * P ≤ 127 * P := Nat.mul_le_mul_right _ (by omega)
        rw [hP] at ha hs hp ⊢
        rw [ih (m / 128) (by omega) f (i + 1) (acc + m % 128 * P) r (by omega) (by rw [hp]; omega) (.inl (by omega)) (by rw [hp]; omega)]
        rw [hp, Nat.add_assoc, ← hmm]
theorem eNum_read (n : Nat) (r : List Nat) (h : n ≤ 4611686018427387904) : eNum 9 0 0 (num n ++ r) = (n, r, false) := by
  rw [eNum_num n 9 0 0 r rfl (by decide) (.inr rfl) (by omega)]
  simp [h]
theorem eNum_great (n : Nat) (r : List Nat) (h : 4611686018427387904 < n) (h2 : n < 9223372036854775808) : eNum 9 0 0 (num n ++ r) = (0, [], true) := by
  rw [eNum_num n 9 0 0 r rfl (by decide) (.inr rfl) (by omega)]
  rw [if_neg (by omega)]
theorem num_inj {n m : Nat} (hn : n ≤ 4611686018427387904) (hm : m ≤ 4611686018427387904) : num n = num m ↔ n = m := by
  constructor
  · intro h
    have h1 := eNum_read n [] hn
    rw [h, eNum_read m [] hm] at h1
    exact (Prod.mk.inj h1).1.symm
  · intro h; rw [h]
theorem eTake_exact (l r : List Nat) : eTake l.length (l ++ r) = (l, r, false) := by
  unfold eTake
  rw [if_neg (by simp), List.take_left, List.drop_left]
def text (l : List Nat) : List Nat := num l.length ++ l
theorem eText_read (l r : List Nat) (h : l.length ≤ 4611686018427387904) : eText (text l ++ r) = (l, r, false) := by
  unfold eText text
  rw [List.append_assoc, eNum_read _ _ h]
  simp only []
  rw [eTake_exact]
  rfl
theorem eFlt_read (b : Nat) (r : List Nat) (h : b < 18446744073709551616) : eFlt (flt b ++ r) = (b, r, false) := by
  unfold eFlt
  have := eTake_exact (flt b) r
  rw [flt_len] at this
  rw [this]
  simp only []
  rw [le_flt b h]
theorem text_lt (l : List Nat) (h : ∀ x ∈ l, x < 256) : ∀ x ∈ text l, x < 256 := by
  intro x hx
  rcases List.mem_append.1 hx with h1 | h1
  · exact num_lt _ x h1
  · exact h x h1

/-- The document's own reading of a number, which stops at the ninth byte: the same. -/
theorem eNum_stop (f i n x : Nat) (l : List Nat) (hn : n < 2 ^ (7 * i)) (hif : i + f = 9) (hx : l.getD 0 0 = x) (hx2 : x < 256) (h : (i = 8 ∧ 64 < x) ∨ (i = 8 ∧ x = 64 ∧ 0 < n) ∨ 8 < i ∨ (0 < i ∧ x = 0)) : eNum f i n l = (0, [], true) := by
  cases f with
  | zero => rfl
  | succ f =>
    rw [eNum, hx]
    by_cases h8 : i = 8
    · subst h8
      obtain rfl : f = 0 := by omega
      have e : (2 : Nat) ^ (7 * 8) = 72057594037927936 := by decide
      by_cases h1 : 128 ≤ x
      · rw [if_pos h1]; rfl
      · rw [if_neg h1, if_pos]
        rw [e]
        omega
    · have h0 : 0 < i ∧ x = 0 := by omega
      rw [if_neg (by omega), if_pos (.inl ⟨h0.2, h0.1⟩)]
theorem eNum_goes (f i n x : Nat) (l : List Nat) (hx : l.getD 0 0 = x) (h : 128 ≤ x) : eNum (f + 1) i n l = eNum f (i + 1) (n + x % 128 * 2 ^ (7 * i)) l.tail := by
  rw [eNum, hx, if_pos h]
theorem eNum_ends (f i n x : Nat) (l : List Nat) (hn : n < 2 ^ (7 * i)) (hif : i + f = 8) (hx : l.getD 0 0 = x) (h : x < 128) (hs : ¬ ((i = 8 ∧ 64 < x) ∨ (i = 8 ∧ x = 64 ∧ 0 < n) ∨ 8 < i ∨ (0 < i ∧ x = 0))) : eNum (f + 1) i n l = (n + x % 128 * 2 ^ (7 * i), l.tail, l.isEmpty) := by
  rw [eNum, hx, if_neg (by omega), if_neg]
  have hb : n + x % 128 * 2 ^ (7 * i) ≤ 4611686018427387904 := by
    by_cases h8 : i = 8
    · subst h8
      have e : (2 : Nat) ^ (7 * 8) = 72057594037927936 := by decide
      rw [e] at hn ⊢
      omega
    · have h1 : (2 : Nat) ^ (7 * i) ≤ 2 ^ (7 * 7) := Nat.pow_le_pow_right (by decide) (by omega)
      have e : (2 : Nat) ^ (7 * 7) = 562949953421312 := by decide
      have h2 : x % 128 * 2 ^ (7 * i) ≤ 127 * 2 ^ (7 * i) := Nat.mul_le_mul_right _ (by omega)
      omega
  omega
theorem acc_lt (i n x : Nat) (hn : n < 2 ^ (7 * i)) : n + x % 128 * 2 ^ (7 * i) < 2 ^ (7 * (i + 1)) := by
  rw [pow7]
  have h2 : x % 128 * 2 ^ (7 * i) ≤ 127 * 2 ^ (7 * i) := Nat.mul_le_mul_right _ (by omega)
  omega
theorem acc_or (i n x : Nat) (hn : n < 2 ^ (7 * i)) : n ||| x % 128 * 2 ^ (7 * i) = n + x % 128 * 2 ^ (7 * i) := by
  have := Nat.two_pow_add_eq_or_of_lt hn (x % 128)
  rw [Nat.or_comm, Nat.mul_comm (x % 128), ← this, Nat.add_comm]
theorem le_or (l : List Nat) (i : Nat) (hl : ∀ x ∈ l, x < 256) (h : i < l.length) : le (l.take i) ||| l.getD i 0 * 2 ^ (8 * i) = le (l.take (i + 1)) := by
  have h1 := le_lt (l.take i) fun x hx => hl x (List.mem_of_mem_take hx)
  rw [List.length_take, Nat.min_eq_left (by omega)] at h1
  have e : (256 : Nat) ^ i = 2 ^ (8 * i) := by rw [Nat.pow_mul]
  rw [le_take l i h, e]
  rw [e] at h1
  have := Nat.two_pow_add_eq_or_of_lt h1 (l.getD i 0)
  rw [Nat.or_comm, Nat.mul_comm (l.getD i 0), ← this, Nat.add_comm]
end Go.Proofs.Yteohjfhflodklaa.Pen
