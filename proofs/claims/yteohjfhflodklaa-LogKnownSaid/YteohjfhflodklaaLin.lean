/- Plain mathematics: sums are linear; texts that are unlike in up to 32 bits one behind another have unlike sums. No condition but the lengths and sizes named. -/
import Derived.Test.YteohjfhflodklaaCMath
namespace Go.Proofs.Yteohjfhflodklaa.Crc

theorem mul_pow_xor (i u v : Nat) : 2 ^ i * (u ^^^ v) = 2 ^ i * u ^^^ 2 ^ i * v := by
  apply Nat.eq_of_testBit_eq
  intro j
  rw [Nat.testBit_xor, Nat.testBit_two_pow_mul, Nat.testBit_two_pow_mul, Nat.testBit_two_pow_mul, Nat.testBit_xor]
  by_cases h : i ≤ j <;> simp [h]

def xor3 : List Nat → List Nat → List Nat → List Nat
  | a :: as, b :: bs, c :: cs => (a ^^^ b ^^^ c) :: xor3 as bs cs
  | _, _, _ => []
theorem xor3_len : ∀ (a b c : List Nat), a.length = b.length → a.length = c.length → (xor3 a b c).length = a.length
  | [], _, _, _, _ => by simp [xor3]
  | _ :: _, [], _, h, _ => by simp at h
  | _ :: _, _ :: _, [], _, h => by simp at h
  | _ :: as, _ :: bs, _ :: cs, h1, h2 => by
    simp at h1 h2
    simp [xor3, xor3_len as bs cs h1 h2]
theorem xor3_get : ∀ (a b c : List Nat) (i : Nat), i < a.length → a.length = b.length → a.length = c.length → (xor3 a b c).getD i 0 = a.getD i 0 ^^^ b.getD i 0 ^^^ c.getD i 0
  | [], _, _, i, h, _, _ => by simp at h
  | _ :: _, [], _, _, _, h, _ => by simp at h
  | _ :: _, _ :: _, [], _, _, _, h => by simp at h
  | _ :: as, _ :: bs, _ :: cs, 0, _, _, _ => by simp [xor3]
  | _ :: as, _ :: bs, _ :: cs, i + 1, h, h1, h2 => by
    simp at h h1 h2
    have := xor3_get as bs cs i h h1 h2
    simpa [xor3] using this
theorem xor_six (a b c d e f : Nat) : (a ^^^ b ^^^ c) ^^^ (d ^^^ e ^^^ f) = (a ^^^ d) ^^^ (b ^^^ e) ^^^ (c ^^^ f) := by
  apply Nat.eq_of_testBit_eq
  intro j
  simp only [Nat.testBit_xor]
  cases a.testBit j <;> cases b.testBit j <;> cases c.testBit j <;> cases d.testBit j <;> cases e.testBit j <;> cases f.testBit j <;> rfl
theorem word_xor3 : ∀ (a b c : List Nat), a.length = b.length → a.length = c.length → word (xor3 a b c) = word a ^^^ word b ^^^ word c
  | [], b, c, h1, h2 => by
    obtain rfl : b = [] := List.length_eq_zero_iff.1 h1.symm
    obtain rfl : c = [] := List.length_eq_zero_iff.1 h2.symm
    simp [xor3, word]
  | _ :: _, [], _, h, _ => by simp at h
  | _ :: _, _ :: _, [], _, h => by simp at h
  | x :: as, y :: bs, z :: cs, h1, h2 => by
    simp at h1 h2
    show (x ^^^ y ^^^ z) ^^^ 2 ^ 8 * word (xor3 as bs cs) = _
    rw [word_xor3 as bs cs h1 h2, mul_pow_xor, mul_pow_xor, xor_six]
    rfl
theorem flip_zero : flip 0 = 4294967295 := rfl
theorem nx_word (l : List Nat) (h : ∀ x ∈ l, x < 256) : nx 0 l = shN (8 * l.length) 4294967295 ^^^ shN (8 * l.length) (word l) ^^^ 4294967295 := by
  unfold nx
  rw [flip_xor (run_lt l (flip_lt 0) h), flip_zero, run_word, shN_xor]
theorem xor_three (f F a b c : Nat) : (f ^^^ a ^^^ F) ^^^ (f ^^^ b ^^^ F) ^^^ (f ^^^ c ^^^ F) = f ^^^ (a ^^^ b ^^^ c) ^^^ F := by
  apply Nat.eq_of_testBit_eq
  intro j
  simp only [Nat.testBit_xor]
  cases a.testBit j <;> cases b.testBit j <;> cases c.testBit j <;> cases f.testBit j <;> cases F.testBit j <;> rfl
theorem xor3_lt : ∀ (a b c : List Nat), (∀ x ∈ a, x < 256) → (∀ x ∈ b, x < 256) → (∀ x ∈ c, x < 256) → ∀ x ∈ xor3 a b c, x < 256
  | [], _, _, _, _, _ => by simp [xor3]
  | _ :: _, [], _, _, _, _ => by simp [xor3]
  | _ :: _, _ :: _, [], _, _, _ => by simp [xor3]
  | x :: as, y :: bs, z :: cs, h1, h2, h3 => by
    intro u hu
    rcases List.mem_cons.1 hu with rfl | hu
    · exact Nat.xor_lt_two_pow (n := 8) (Nat.xor_lt_two_pow (n := 8) (h1 x (by simp)) (h2 y (by simp))) (h3 z (by simp))
    · exact xor3_lt as bs cs (fun v hv => h1 v (by simp [hv])) (fun v hv => h2 v (by simp [hv])) (fun v hv => h3 v (by simp [hv])) u hu
theorem nx_lines (a b c : List Nat) (h1 : a.length = b.length) (h2 : a.length = c.length) (ha : ∀ x ∈ a, x < 256) (hb : ∀ x ∈ b, x < 256) (hc : ∀ x ∈ c, x < 256) :
    nx 0 a ^^^ nx 0 b ^^^ nx 0 c = nx 0 (xor3 a b c) := by
  rw [nx_word a ha, nx_word b hb, nx_word c hc, nx_word _ (xor3_lt a b c ha hb hc), xor3_len a b c h1 h2, word_xor3 a b c h1 h2, ← h1, ← h2, shN_xor, shN_xor, xor_three]

theorem run_inj (q : List Nat) {c d : Nat} (hc : c < 4294967296) (hd : d < 4294967296) (h : run c q = run d q) : c = d := by
  rw [run_word, run_word, shN_xor, shN_xor] at h
  have h2 : shN (8 * q.length) c = shN (8 * q.length) d := by
    have := congrArg (· ^^^ shN (8 * q.length) (word q)) h
    simpa [Nat.xor_assoc] using this
  exact shN_inj _ hc hd h2
theorem word_lt : ∀ (l : List Nat), (∀ x ∈ l, x < 256) → word l < 2 ^ (8 * l.length)
  | [], _ => by simp [word]
  | x :: l, h => by
    have ih := word_lt l (fun y hy => h y (by simp [hy]))
    show x ^^^ 2 ^ 8 * word l < 2 ^ (8 * (l.length + 1))
    have e : 2 ^ (8 * (l.length + 1)) = 2 ^ 8 * 2 ^ (8 * l.length) := by rw [← Nat.pow_add]; congr 1; omega
    apply Nat.xor_lt_two_pow
    · have : x < 2 ^ 8 := h x (by simp)
      exact Nat.lt_of_lt_of_le this (Nat.pow_le_pow_right (by omega) (by omega))
    · rw [e]
      exact Nat.mul_lt_mul_of_pos_left ih (by decide)
theorem word_inj : ∀ (u v : List Nat), u.length = v.length → (∀ x ∈ u, x < 256) → (∀ x ∈ v, x < 256) → word u = word v → u = v
  | [], v, h, _, _, _ => by
    exact (List.length_eq_zero_iff.1 h.symm).symm
  | x :: u, [], h, _, _, _ => by simp at h
  | x :: u, y :: v, h, hu, hv, e => by
    have hx : x < 2 ^ 8 := hu x (by simp)
    have hy : y < 2 ^ 8 := hv y (by simp)
    have e2 : 2 ^ 8 * word u + x = 2 ^ 8 * word v + y := by
      rw [split_xor 8 _ _ hx, split_xor 8 _ _ hy, Nat.xor_comm, Nat.xor_comm (2 ^ 8 * word v)]
      exact e
    have h1 : x = y := by omega
    have h2 : word u = word v := by omega
    rw [h1, word_inj u v (by simpa using h) (fun z hz => hu z (by simp [hz])) (fun z hz => hv z (by simp [hz])) h2]
theorem run_inj_text {c : Nat} (u v : List Nat) (h : u.length = v.length) (h4 : u.length ≤ 4) (hu : ∀ x ∈ u, x < 256) (hv : ∀ x ∈ v, x < 256) (e : run c u = run c v) : u = v := by
  rw [run_word, run_word, ← h, shN_xor, shN_xor] at e
  have h2 : shN (8 * u.length) (word u) = shN (8 * u.length) (word v) := by
    have := congrArg (shN (8 * u.length) c ^^^ ·) e
    simpa [← Nat.xor_assoc] using this
  have hp : (2 : Nat) ^ (8 * u.length) ≤ 4294967296 := Nat.pow_le_pow_right (n := 2) (by omega) (show 8 * u.length ≤ 32 by omega)
  have b1 := word_lt u hu
  have b2 := word_lt v hv
  rw [← h] at b2
  exact word_inj u v h hu hv (shN_inj _ (by omega) (by omega) h2)
theorem nx_apart (p u v q : List Nat) (h : u.length = v.length) (h4 : u.length ≤ 4) (hp : ∀ x ∈ p, x < 256) (hu : ∀ x ∈ u, x < 256) (hv : ∀ x ∈ v, x < 256) (e : nx 0 (p ++ u ++ q) = nx 0 (p ++ v ++ q)) (hq : ∀ x ∈ q, x < 256) : u = v := by
  have b0 := run_lt p (flip_lt 0) hp
  have b1 := run_lt u b0 hu
  have b2 := run_lt v b0 hv
  have b3 := run_lt q b1 hq
  have b4 := run_lt q b2 hq
  unfold nx at e
  rw [run_append, run_append, run_append, run_append] at e
  have e2 : run (run (run (flip 0) p) u) q = run (run (run (flip 0) p) v) q := by unfold flip at e b3 b4 ⊢; omega
  exact run_inj_text u v h h4 hu hv (run_inj q b1 b2 e2)
end Go.Proofs.Yteohjfhflodklaa.Crc
