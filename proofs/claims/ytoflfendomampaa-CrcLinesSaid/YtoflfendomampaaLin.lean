/- Plain mathematics: sums are linear; texts that are unlike in up to 32 bits one behind another have unlike sums. No condition but the lengths and sizes named. -/
import Derived.Test.YtoflfendomampaaMath
namespace Go.Proofs.Ytoflfendomampaa.Crc

theorem mul_pow_xor (i u v : Nat) : 2 ^ i * (u ^^^ v) = 2 ^ i * u ^^^ 2 ^ i * v := by
  apply Nat.eq_of_testBit_eq
  intro j
  rw [Nat.testBit_xor, Nat.testBit_two_pow_mul, Nat.testBit_two_pow_mul, Nat.testBit_two_pow_mul, Nat.testBit_xor]
  by_cases h : i ≤ j <;> simp [h]

def xor3 : List Nat → List Nat → List Nat → List Nat
  | a :: as, b :: bs, c :: cs => (a ^^^ b ^^^ c) :: xor3 as bs cs
  | _, _, _ => []
theorem xor3_len : ∀ (a b c : List Nat), a.length = b.length → a.length = c.length → (xor3 a b c).length = a.length
  | [], _, _, _, _ => by simp [xor3]
  | _ :: _, [], _, h, _ => by simp at h
  | _ :: _, _ :: _, [], _, h => by simp at h
  | _ :: as, _ :: bs, _ :: cs, h1, h2 => by
    simp at h1 h2
    simp [xor3, xor3_len as bs cs h1 h2]
theorem xor3_get : ∀ (a b c : List Nat) (i : Nat), i < a.length → a.length = b.length → a.length = c.length → (xor3 a b c).getD i 0 = a.getD i 0 ^^^ b.getD i 0 ^^^ c.getD i 0
  | [], _, _, i, h, _, _ => by simp at h
  | _ :: _, [], _, _, _, h, _ => by simp at h
  | _ :: _, _ :: _, [], _, _, _, h => by simp at h
  | _ :: as, _ :: bs, _ :: cs, 0, _, _, _ => by simp [xor3]
  | _ :: as, _ :: bs, _ :: cs, i + 1, h, h1, h2 => by
    simp at h h1 h2
    have := xor3_get as bs cs i h h1 h2
    simpa [xor3] using this
theorem xor_six (a b c d e f : Nat) : (a ^^^ b ^^^ c) ^^^ (d ^^^ e ^^^ f) = (a ^^^ d) ^^^ (b ^^^ e) ^^^ (c ^^^ f) := by
  apply Nat.eq_of_testBit_eq
  intro j
  simp only [Nat.testBit_xor]
  cases a.testBit j <;> cases b.testBit j <;> cases c.testBit j <;> cases d.testBit j <;> cases e.testBit j <;> cases f.testBit j <;> rfl
theorem word_xor3 : ∀ (a b c : List Nat), a.length = b.length → a.length = c.length → word (xor3 a b c) = word a ^^^ word b ^^^ word c
  | [], b, c, h1, h2 => by
    obtain rfl : b = [] := List.length_eq_zero_iff.1 h1.symm
    obtain rfl : c = [] := List.length_eq_zero_iff.1 h2.symm
    simp [xor3, word]
  | _ :: _, [], _, h, _ => by simp at h
  | _ :: _, _ :: _, [], _, h => by simp at h
  | x :: as, y :: bs, z :: cs, h1, h2 => by
    simp at h1 h2
    show (x ^^^ y ^^^ z) ^^^ 2 ^ 8 * word (xor3 as bs cs) = _
    rw [word_xor3 as bs cs h1 h2, mul_pow_xor, mul_pow_xor, xor_six]
    rfl
theorem flip_zero : flip 0 = 4294967295 := rfl
theorem nx_word (l : List Nat) (h : ∀ x ∈ l, x < 256) : nx 0 l = shN (8 * l.length) 4294967295 ^^^ shN (8 * l.length) (word l) ^^^ 4294967295 := by
  unfold nx
  rw [flip_xor (run_lt l (flip_lt 0) h), flip_zero, run_word, shN_xor]
theorem xor_three (f F a b c : Nat) : (f ^^^ a ^^^ F) ^^^ (f ^^^ b ^^^ F) ^^^ (f ^^^ c ^^^ F) = f ^^^ (a ^^^ b ^^^ c) ^^^ F := by
  apply Nat.eq_of_testBit_eq
  intro j
  simp only [Nat.testBit_xor]
  cases a.testBit j <;> cases b.testBit j <;> cases c.testBit j <;> cases f.testBit j <;> cases F.testBit j <;> rfl
theorem xor3_lt : ∀ (a b c : List Nat), (∀ x ∈ a, x < 256) → (∀ x ∈ b, x < 256) → (∀ x ∈ c, x < 256) → ∀ x ∈ xor3 a b c, x < 256
  | [], _, _, _, _, _ => by simp [xor3]
  | _ :: _, [], _, _, _, _ => by simp [xor3]
  | _ :: _, _ :: _, [], _, _, _ => by simp [xor3]
  | x :: as, y :: bs, z :: cs, h1, h2, h3 => by
    intro u hu
    rcases List.mem_cons.1 hu with rfl | hu
    · exact Nat.xor_lt_two_pow (n := 8) (Nat.xor_lt_two_pow (n := 8) (h1 x (by simp)) (h2 y (by simp))) (h3 z (by simp))
    · exact xor3_lt as bs cs (fun v hv => h1 v (by simp [hv])) (fun v hv => h2 v (by simp [hv])) (fun v hv => h3 v (by simp [hv])) u hu
theorem nx_lines (a b c : List Nat) (h1 : a.length = b.length) (h2 : a.length = c.length) (ha : ∀ x ∈ a, x < 256) (hb : ∀ x ∈ b, x < 256) (hc : ∀ x ∈ c, x < 256) :
    nx 0 a ^^^ nx 0 b ^^^ nx 0 c = nx 0 (xor3 a b c) := by
  rw [nx_word a ha, nx_word b hb, nx_word c hc, nx_word _ (xor3_lt a b c ha hb hc), xor3_len a b c h1 h2, word_xor3 a b c h1 h2, ← h1, ← h2, shN_xor, shN_xor, xor_three]
end Go.Proofs.Ytoflfendomampaa.Crc
