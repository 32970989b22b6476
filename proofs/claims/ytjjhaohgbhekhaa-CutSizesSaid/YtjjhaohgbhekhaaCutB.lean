/- What the document's own Hash and Ends answer. Condition: at most a million bytes. -/
import Derived.Test.YtjjhaohgbhekhaaCutA
namespace Go.Proofs.Ytjjhaohgbhekhaa
open Go.RowKit
set_option maxRecDepth 4000
theorem rhash_out (a : Option Addr) (n cap : Nat) (z : Int) (w : World) (h : z < 0 ∨ (n : Int) ≤ z) :
    Calls Try.prog 12 #[.slice a n cap, .int .i64 z] w fun e w' => e = .returned (.int .u32 0) ∧ w' = w := by
  by_cases h1 : z < 0
  · clear h
    go_enter Try.func12, Try.ntmps12
    go_wp2_with fail
    go_ret
    exact ⟨rfl, rfl⟩
  · have h2 : (n : Int) ≤ z := by omega
    clear h
    go_enter Try.func12, Try.ntmps12
    go_wp2_with fail
    go_ret
    exact ⟨rfl, rfl⟩
theorem hs_drop (t : List Nat) (k : Nat) (h : k < t.length) : hs (t.drop (t.length - (k + 1))) = (hs (t.drop (t.length - k)) + (t.getD (t.length - (k + 1)) 0 + 1) * (31 ^ k % 4294967296)) % 4294967296 := by
  have h1 : t.length - (k + 1) < t.length := by omega
  rw [List.drop_eq_getElem_cons h1, show t.length - (k + 1) + 1 = t.length - k by omega, hs_cons, List.length_drop, show t.length - (t.length - k) = k by omega]
  simp [List.getD_eq_getElem?_getD, h1]
theorem win_get (l : List Nat) (i k : Nat) (hi : i < l.length) (hk : k < 8) (hki : k ≤ i) : (win l i).getD ((win l i).length - (k + 1)) 0 = l.getD (i - k) 0 := by
  rw [win_len l i hi]
  unfold win
  rw [getD_drop, getD_take _ _ _ (by omega)]
  congr 1
  omega
theorem rhash_any (a : Option Addr) (l : List Nat) (n cap i : Nat) (w : World) (hn : l.length = n) (hm : n ≤ 1000000) (hr : Row w a l) (hi : i < n) :
    Calls Try.prog 12 #[.slice a n cap, .int .i64 (i : Int)] w fun e w' => e = .returned (.int .u32 (hash l i : Nat)) ∧ w' = w := by
  have h1 : ¬ (i : Int) < 0 := by omega
  have h2 : ¬ (n : Int) ≤ (i : Int) := by omega
  have h2' : (i : Int) < (n : Int) := by omega
  have hi6 : (i : Int) < 1000000 := by omega
  obtain ⟨b, off, rfl, hbl, hcell⟩ : ∃ b off, a = some ⟨b, off, none⟩ ∧ b < w.heap.size ∧ ∀ i, i < l.length → w.cell? ⟨b, off + i, none⟩ = some (.int .u8 (l.getD i 0 : Nat)) := by
    rcases hr.2 with h | h
    · rw [h] at hn; simp at hn; omega
    · exact h
  have HC := hid hcell
  have HB := hid hr.1
  have HN := hid hn
  have HWG := hid (fun k => win_get l i k (by omega))
  have HWL := hid (win_len l i (by omega))
  have HH : Hid (hash l i = hs (win l i)) := rfl
  clear hcell hr hbl
  generalize win l i = t at *
  have HD := hid (fun k => hs_drop t k)
  obtain ⟨m, hmm⟩ : ∃ m, t.length = m := ⟨_, rfl⟩
  rw [hmm] at HWG HWL HD
  have HT0 : Hid (hs (t.drop (m - 0)) = 0) := by show _ = _; rw [Nat.sub_zero, List.drop_of_length_le (by omega)]; rfl
  have hm8 : m ≤ 8 ∧ m ≤ i + 1 ∧ (m = 8 ∨ m = i + 1) := by have := HWL.out; omega
  have HM8 := hid hm8
  clear hmm hm8
  go_enter Try.func12, Try.ntmps12
  go_wp2_with fail
  go_loopg [5, 6, 7] m (fun gk v5 v6 v7 wr => ∃ k : Nat, k + gk = m ∧ v7 = .int .i64 (k : Int) ∧ v5 = .int .u32 (hs (t.drop (m - k)) : Nat) ∧ v6 = .int .u32 ((31 ^ k % 4294967296 : Nat) : Int) ∧ wr = w)
  case atStart => exact ⟨0, by omega, rfl, by rw [HT0.out]; rfl, by rfl, rfl⟩
  case round =>
    obtain ⟨k, hk, rfl, rfl, rfl, rfl⟩ := hrel
    have HK := hid hk
    have hm8 := HM8.out
    by_cases hkm : k < m
    · have hk8 : (k : Int) < 8 := by omega
      have hki : ¬ (i : Int) - (k : Int) < 0 := by omega
      have hki' : (0 : Int) ≤ (i : Int) - (k : Int) := by omega
      obtain ⟨J, hJ⟩ : ∃ J, i - k = J := ⟨_, rfl⟩
      have hIJ : (i : Int) - (k : Int) = (J : Int) := by omega
      have hJn : J < n := by omega
      have hc := HC.out J (by rw [HN.out]; exact hJn)
      have hst := HD.out k (by rw [HWL.out]; have := HWL.out; omega)
      have hw := HWG.out k (by omega) (by omega)
      rw [hw, hJ] at hst
      have hB := getD_lt HB.out J
      have hlt := hs_lt (t.drop (m - k))
      have hP : 31 ^ k % 4294967296 < 4294967296 := Nat.mod_lt _ (by decide)
      have hP2 : 31 ^ (k + 1) % 4294967296 = (31 ^ k % 4294967296) * 31 % 4294967296 := by rw [Nat.pow_succ]; omega
      generalize l.getD J 0 = x at *
      generalize hs (t.drop (m - k)) = K0 at *
      generalize 31 ^ k % 4294967296 = P at *
      obtain ⟨Q, hQ⟩ : ∃ Q, (x + 1) * P = Q := ⟨_, rfl⟩
      have hQ2 : ((x : Int) + 1) * (P : Int) = (Q : Int) := by rw [← hQ]; simp
      rw [hQ] at hst
      have hQb : Q ≤ 256 * 4294967296 := by rw [← hQ]; exact Nat.mul_le_mul (by omega) (by omega)
      have HST := hid (And.intro hst hP2)
      clear hst hP2 hk hw hQ hJ hm8
      go_wp2_with fail
      go_roundg (gk - 1)
      case measure => have := HK.out; omega
      case rel =>
        refine ⟨k + 1, by have := HK.out; omega, by go_num, ?_, ?_, rfl⟩
        · rw [HST.out.1]
          apply congrArg (Value.int .u32)
          omega
        · rw [HST.out.2]
          apply congrArg (Value.int .u32)
          omega
    · obtain rfl : k = m := by omega
      rw [Nat.sub_self, List.drop_zero]
      have hlt := hs_lt t
      have hP : 31 ^ k % 4294967296 < 4294967296 := Nat.mod_lt _ (by decide)
      generalize hKe : hs t = K at *
      have HKe := hid hKe
      generalize 31 ^ k % 4294967296 = P at *
      clear hKe hk hlt hP
      by_cases h8 : k = 8
      · have hk8 : ¬ (k : Int) < 8 := by omega
        clear h8 hm8
        go_wp2_with fail
        go_ret
        exact ⟨by rw [HH.out]; rfl, rfl⟩
      · have hk8 : (k : Int) < 8 := by omega
        have hki : (i : Int) - (k : Int) = -1 := by omega
        clear h8 hm8
        go_wp2_with fail
        go_ret
        exact ⟨by rw [HH.out]; rfl, rfl⟩
theorem rends_out (a : Option Addr) (n cap : Nat) (z : Int) (w : World) (h : z < 0 ∨ (n : Int) ≤ z) :
    Calls Try.prog 14 #[.slice a n cap, .int .i64 z] w fun e w' => e = .returned (.int .i64 (n : Int)) ∧ w' = w := by
  by_cases h1 : z < 0
  · clear h
    go_enter Try.func14, Try.ntmps14
    go_wp2_with fail
    go_ret
    exact ⟨rfl, rfl⟩
  · have h2 : (n : Int) ≤ z := by omega
    clear h
    go_enter Try.func14, Try.ntmps14
    go_wp2_with fail
    go_ret
    exact ⟨rfl, rfl⟩
set_option maxRecDepth 20000 in
theorem rends_any (a : Option Addr) (l : List Nat) (n cap f : Nat) (w : World) (hn : l.length = n) (hm : n ≤ 1000000) (hr : Row w a l) (hf : f < n) :
    Calls Try.prog 14 #[.slice a n cap, .int .i64 (f : Int)] w fun e w' => e = .returned (.int .i64 (ends l f : Nat)) ∧ ∃ k, w' = w.drewN k := by
  have h1 : ¬ (f : Int) < 0 := by omega
  have h2 : ¬ (n : Int) ≤ (f : Int) := by omega
  have h2' : (f : Int) < (n : Int) := by omega
  have h6 : (f : Int) < 1000000 := by omega
  have h7 : (n : Int) ≤ 1000000 := by omega
  have HH := hid (fun i (hi : i < n) W (hW : Row W a l) => rhash_any a l n cap i W hn hm hW hi)
  have HN := hid hn
  have HR := hid hr
  have HEND : Hid (∀ r, IsEnd l f r → ends l f = r) := fun r h => ends_eq (by omega) h
  clear hn hr hm
  go_enter Try.func14, Try.ntmps14
  go_wp2_with fail
  go_loopg [5] (n - f) (fun k v5 wr => ∃ i : Nat, i + k = n ∧ f ≤ i ∧ i < f + 64 ∧ v5 = .int .i64 (i : Int) ∧ (∀ j, f + 7 ≤ j → j < i → fit (hash l j) = false) ∧ wr = w)
  case atStart => exact ⟨f, by omega, by omega, by omega, rfl, fun j h1 h2 => by omega, rfl⟩
  case round =>
    obtain ⟨i, hi, hlo, hhi, rfl, hno, rfl⟩ := hrel
    have HI := hid (And.intro hi (And.intro hlo hhi))
    have HNO := hid hno
    clear hi hlo hhi hno
    by_cases hin : i < n
    · have hii : (i : Int) < (n : Int) := by omega
      obtain ⟨N, hN⟩ : ∃ N, i + 1 - f = N := ⟨_, rfl⟩
      have hIN : (i : Int) - (f : Int) + 1 = (N : Int) := by have := HI.out; omega
      have HNN : Hid (N ≤ 64 ∧ N = i + 1 - f) := ⟨by have := HI.out; omega, hN.symm⟩
      have HK := hid (HH.out i hin wr HR.out)
      have hlt := hash_lt l i
      have hb := fit_bits (hash l i) hlt
      obtain ⟨H, hH⟩ : ∃ H, hash l i = H := ⟨_, rfl⟩
      rw [hH] at HK hlt hb
      have HHH := hid hH
      clear hH hN
      have HI1 := HI.out
      by_cases h64 : N = 64
      · subst h64
        go_wp2_with fail
        go_ret
        have hIs : IsEnd l f (i + 1) := ⟨by omega, by have := HNN.out; have := HN.out; omega, fun j h1 h2 => HNO.out j h1 (by omega), .inl (by have := HNN.out; have := HN.out; omega)⟩
        rw [HEND.out _ hIs]
        exact ⟨by go_num, 0, rfl⟩
      · by_cases h8 : N < 8
        · have e64 : ((N : Int) == 64) = false := by simp; omega
          have e8 : ¬ 8 ≤ (N : Int) := by omega
          have e9 : (decide (8 ≤ (N : Int))) = false := by simp; omega
          clear e8
          have H64 := hid (And.intro h64 h8)
          clear h64 h8 hlt hb HI1
          go_wp2_with fail
          go_roundg (gk - 1)
          case measure => have := HI.out; omega
          case rel => exact ⟨i + 1, by have := HI.out; omega, by have := HI.out; omega, by have := HNN.out; have := H64.out; omega, by go_num, fun j h1 h2 => by have := HNN.out; have := H64.out; omega, rfl⟩
        · have e64 : ((N : Int) == 64) = false := by simp; omega
          have e8' : 8 ≤ (N : Int) := by omega
          have H64 := hid (And.intro h64 h8)
          clear h64 h8 HI1
          cases hfit : fit H with
          | true =>
            rw [hfit] at hb
            have HF := hid hfit
            clear hfit
            go_wp2_with fail
            refine HK.out.mono ?_
            rintro e w1 ⟨rfl, hw1⟩
            subst hw1
            go_wp2_with fail
            go_ret
            have h9 := HNN.out
            have h10 := HI.out
            have hIs : IsEnd l f (i + 1) := ⟨by omega, by have := HN.out; omega, fun j h1 h2 => HNO.out j h1 (by omega), .inr ⟨by have := H64.out; omega, by rw [Nat.add_sub_cancel, HHH.out]; exact HF.out⟩⟩
            rw [HEND.out _ hIs]
            exact ⟨by go_num, 0, rfl⟩
          | false =>
            rw [hfit] at hb
            have HF := hid hfit
            clear hfit
            go_wp2_with fail
            refine HK.out.mono ?_
            rintro e w1 ⟨rfl, hw1⟩
            subst hw1
            go_wp2_with fail
            go_roundg (gk - 1)
            case measure => have := HI.out; omega
            case rel =>
              refine ⟨i + 1, by have := HI.out; omega, by have := HI.out; omega, by have := HNN.out; have := H64.out; omega, by go_num, fun j h1 h2 => ?_, rfl⟩
              by_cases e : j = i
              · rw [e, HHH.out]; exact HF.out
              · exact HNO.out j h1 (by omega)
    · have hii : ¬ (i : Int) < (n : Int) := by omega
      go_wp2_with fail
      go_ret
      have h10 := HI.out
      have hIs : IsEnd l f n := ⟨by omega, by have := HN.out; omega, fun j h1 h2 => HNO.out j h1 (by omega), .inl (by have := HN.out; omega)⟩
      rw [HEND.out _ hIs]
      exact ⟨rfl, 0, rfl⟩
end Go.Proofs.Ytjjhaohgbhekhaa
