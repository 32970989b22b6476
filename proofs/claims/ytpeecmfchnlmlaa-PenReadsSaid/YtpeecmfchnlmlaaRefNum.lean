/- What the document's own Eye answers for numbers, whatever lies before it: the same as the plain mathematics. No condition but the model's own greatest length. -/
import Derived.Test.YtpeecmfchnlmlaaRefEye
namespace Go.Proofs.Ytpeecmfchnlmlaa
open Go.RowKit Pen
theorem u8_low7 (x : Nat) (hx : x < 256) : bits .and .u8 (x : Int) 127 = ((x % 128 : Nat) : Int) := by
  have h := u8_and_nat x 127 hx (by decide)
  have e : x &&& 127 = x % 128 := Nat.and_two_pow_sub_one_eq_mod x 7
  rw [e] at h
  exact h
theorem num_sum (i n x y : Nat) (hi : i < 9) (hn : n < 2 ^ (7 * i)) (hy : n + x % 128 * 2 ^ (7 * i) = y) : wrap64 ((n : Int) + wrap64 ((x : Int) % 128 * 2 ^ (7 * i))) = (y : Int) := by
  have hf := num_fit i n x hi hn
  have e : ((x : Int) % 128 * 2 ^ (7 * i)) = ((x % 128 * 2 ^ (7 * i) : Nat) : Int) := by push_cast; rfl
  rw [e, ← hy]
  rw [hy] at hf
  unfold wrap64
  omega
set_option maxRecDepth 20000 in
set_option maxHeartbeats 2000000 in
theorem rnum_ok {B : Nat} {w : World} {q : Nat} {l : List Nat} (h : Ref B w q l false) :
    Calls Try.prog 26 #[.pointer (some ⟨q, 0, none⟩)] w fun e w' => e = .returned (.int .i64 ((eNum 9 0 0 l).1 : Nat)) ∧ (∃ l', Ref B w' q l' (eNum 9 0 0 l).2.2 ∧ ((eNum 9 0 0 l).2.2 = false → l' = (eNum 9 0 0 l).2.1)) ∧ Only q none w w' := by
  have HE := hid h
  obtain ⟨R, hR⟩ : ∃ R, eNum 9 0 0 l = R := ⟨_, rfl⟩
  have HR : Hid (eNum 9 0 0 l = R) := hR
  rw [hR]
  clear hR h
  go_enter Try.func26, Try.ntmps26
  go_wp2_with fail
  go_loopg [3, 4] 9 (fun k u v wr => ∃ (i n : Nat) (lr : List Nat), i + k = 9 ∧ 0 < k ∧ u = .int .i64 (n : Int) ∧ v = .int .i64 (i : Int) ∧ n < 2 ^ (7 * i) ∧ Ref B wr q lr false ∧ Only q none w wr ∧ eNum k i n lr = R)
  case atStart => exact ⟨0, 0, l, rfl, by decide, rfl, rfl, by decide, HE.out, Only.refl _ _ _, HR.out⟩
  case round =>
    obtain ⟨i, n, lr, hk, hk0, rfl, rfl, hn, he, ho, hr⟩ := hrel
    have HK : Hid (i + gk = 9) := hk
    have HN : Hid (n < 2 ^ (7 * i)) := hn
    have HE2 := hid he
    have HO := hid ho
    have HRR : Hid (eNum gk i n lr = R) := hr
    have hi8 : i ≤ 8 := by omega
    have HG0 := hid hk0
    clear hn he ho hr hk hk0
    go_wp2_with fail
    refine (rbyte_ok HE2.out).mono ?_
    rintro e w1 ⟨rfl, he1, ho1⟩
    obtain ⟨x, hx⟩ : ∃ x, lr.getD 0 0 = x := ⟨_, rfl⟩
    have hx2 : x < 256 := by
      rw [← hx]
      obtain ⟨a, nn, cap, _, _, _, _, h5, _⟩ := HE2.out
      exact getD_lt h5.1 0
    have HX : Hid (lr.getD 0 0 = x) := hx
    rw [hx]
    clear hx
    cases hemp : lr.isEmpty with
    | true =>
      rw [hemp] at he1
      have hlr : lr = [] := by simpa using hemp
      have hR : R = (0, [], true) := by
        rw [← HRR.out]
        obtain ⟨f, rfl⟩ : ∃ f, gk = f + 1 := ⟨gk - 1, by have := HG0.out; omega⟩
        rw [hlr, eNum]
        by_cases h0 : 0 < i
        · simp [h0]
        · obtain rfl : i = 0 := by omega
          obtain rfl : n = 0 := by have := HN.out; simpa using this
          simp
      have HF := hid (he1.flag true)
      obtain ⟨a, nn, cap, h1, h2, h3, h4, h5, h6⟩ := he1
      have hc := (cell2 h1)
      have hf1 := frozen_of_row w1 q 1 _ 47 h1
      clear h5 h1
      have HRf := hid hR
      clear hR HRR HR
      go_wp2_with fail
      go_ret
      rw [HRf.out]
      exact ⟨rfl, ⟨_, HF.out.1, by simp⟩, only_trans HO.out (only_trans ho1 HF.out.2)⟩
    | false =>
      rw [hemp] at he1
      have HF := hid (he1.flag true)
      have HE3 := hid he1
      obtain ⟨a, nn, cap, h1, h2, h3, h4, h5, h6⟩ := he1
      have hc := (cell2 h1)
      have hf1 := frozen_of_row w1 q 1 _ 47 h1
      clear h5 h1
      by_cases hstop : (i = 8 ∧ 64 < x) ∨ (i = 8 ∧ x = 64 ∧ 0 < n) ∨ 8 < i ∨ (0 < i ∧ x = 0)
      · have hR : R = (0, [], true) := by
          rw [← HRR.out]
          exact eNum_stop gk i n x lr HN.out HK.out HX.out hx2 hstop
        have cases4 : ((((i : Int) == 8) = true) ∧ (64 : Int) < (x : Int)) ∨ ((((i : Int) == 8) = true) ∧ ¬ (64 : Int) < (x : Int) ∧ (((x : Int) == 64) = true) ∧ (0 : Int) < (n : Int)) ∨ ((((i : Int) == 8) = true) ∧ ¬ (64 : Int) < (x : Int) ∧ (((x : Int) == 64) = false) ∧ ¬ (8 : Int) < (i : Int) ∧ (0 : Int) < (i : Int) ∧ (((x : Int) == 0) = true)) ∨ ((((i : Int) == 8) = false) ∧ ¬ (8 : Int) < (i : Int) ∧ (0 : Int) < (i : Int) ∧ (((x : Int) == 0) = true)) := by
          simp only [beq_iff_eq, beq_eq_false_iff_ne, ne_eq]
          omega
        have HRf := hid hR
        clear hR HRR HR hstop
        rcases cases4 with ⟨c1, c2⟩ | ⟨c1, c2, c3, c4⟩ | ⟨c1, c2, c3, c4, c5, c6⟩ | ⟨c1, c2, c3, c4⟩
        all_goals
          go_wp2_with fail
          go_ret
          rw [HRf.out]
          exact ⟨rfl, ⟨_, HF.out.1, by simp⟩, only_trans HO.out (only_trans ho1 HF.out.2)⟩
      · obtain ⟨y, hy⟩ : ∃ y, n + x % 128 * 2 ^ (7 * i) = y := ⟨_, rfl⟩
        have hy2 : y < 9223372036854775808 := by rw [← hy]; exact num_fit i n x (by omega) HN.out
        have HY : Hid (n + x % 128 * 2 ^ (7 * i) = y) := hy
        have h7 := u8_low7 x hx2
        have HST := hid hstop
        have casesG : ((((i : Int) == 8) = true) ∧ ¬ (64 : Int) < (x : Int) ∧ (((x : Int) == 64) = true) ∧ ¬ (0 : Int) < (n : Int) ∧ ¬ (8 : Int) < (i : Int) ∧ (0 : Int) < (i : Int) ∧ (((x : Int) == 0) = false)) ∨ ((((i : Int) == 8) = true) ∧ ¬ (64 : Int) < (x : Int) ∧ (((x : Int) == 64) = false) ∧ ¬ (8 : Int) < (i : Int) ∧ (0 : Int) < (i : Int) ∧ (((x : Int) == 0) = false)) ∨ ((((i : Int) == 8) = false) ∧ ¬ (8 : Int) < (i : Int) ∧ (0 : Int) < (i : Int) ∧ (((x : Int) == 0) = false)) ∨ ((((i : Int) == 8) = false) ∧ ¬ (8 : Int) < (i : Int) ∧ ¬ (0 : Int) < (i : Int)) := by
          simp only [beq_iff_eq, beq_eq_false_iff_ne, ne_eq]
          omega
        clear hy hstop
        have HS := hid (num_sum i n x y (by omega) HN.out HY.out)
        have HHE := hid hemp
        by_cases h128 : 128 ≤ x
        · have g1 : ¬ (x : Int) < 128 := by omega
          have hRn : gk = (gk - 1) + 1 ∧ i < 8 := by have := HK.out; have := HG0.out; have := HST.out; omega
          have HRR2 : Hid (eNum (gk - 1) (i + 1) y lr.tail = R) := by
            have e := HRR.out
            rw [hRn.1, eNum_goes (gk - 1) i n x lr HX.out h128, HY.out] at e
            exact e
          have hi7 := hRn.2
          clear hRn HRR HR
          rcases casesG with ⟨c1, c2, c3, c4, c5, c6, c7⟩ | ⟨c1, c2, c3, c4, c5, c6⟩ | ⟨c1, c2, c3, c4⟩ | ⟨c1, c2, c3⟩
          · exfalso; simp at c3; omega
          · exfalso; omega
          · go_wp2_with fail
            go_roundg (gk - 1)
            case measure => have := HG0.out; omega
            case rel =>
              have := HK.out
              exact ⟨i + 1, y, lr.tail, by omega, by omega, by rw [HS.out], by go_num, by rw [← HY.out]; exact acc_lt i n x HN.out, HE3.out, only_trans HO.out ho1, HRR2.out⟩
          · obtain rfl : i = 0 := by omega
            obtain rfl : n = 0 := by have := HN.out; simpa using this
            go_wp2_with fail
            go_roundg (gk - 1)
            case measure => have := HG0.out; omega
            case rel =>
              have := HK.out
              have ey : x % 128 = y := by have := HY.out; simpa using this
              exact ⟨0 + 1, y, lr.tail, by omega, by omega, by rw [← ey]; rfl, by go_num, by rw [← HY.out]; exact acc_lt 0 0 x HN.out, HE3.out, only_trans HO.out ho1, HRR2.out⟩
        · have g1 : (x : Int) < 128 := by omega
          have HRR2 : Hid (R = (y, lr.tail, false)) := by
            have hRn : gk = (gk - 1) + 1 := by have := HG0.out; omega
            have e := HRR.out
            rw [hRn, eNum_ends (gk - 1) i n x lr HN.out (by have := HK.out; omega) HX.out (by omega) HST.out, HY.out, HHE.out] at e
            exact e.symm
          clear HRR HR
          rcases casesG with ⟨c1, c2, c3, c4, c5, c6, c7⟩ | ⟨c1, c2, c3, c4, c5, c6⟩ | ⟨c1, c2, c3, c4⟩ | ⟨c1, c2, c3⟩
          · obtain rfl : n = 0 := by omega
            go_wp2_with fail
            go_ret
            rw [HRR2.out]
            have e := HS.out
            rw [show ((0 : Nat) : Int) = 0 from rfl, Int.zero_add] at e
            exact ⟨by rw [← e]; rfl, ⟨_, HE3.out, fun _ => rfl⟩, only_trans HO.out ho1⟩
          · go_wp2_with fail
            go_ret
            rw [HRR2.out]
            exact ⟨by rw [← HS.out]; rfl, ⟨_, HE3.out, fun _ => rfl⟩, only_trans HO.out ho1⟩
          · go_wp2_with fail
            go_ret
            rw [HRR2.out]
            exact ⟨by rw [← HS.out]; rfl, ⟨_, HE3.out, fun _ => rfl⟩, only_trans HO.out ho1⟩
          · obtain rfl : i = 0 := by omega
            obtain rfl : n = 0 := by have := HN.out; simpa using this
            go_wp2_with fail
            go_ret
            rw [HRR2.out]
            have ey : x % 128 = y := by have := HY.out; simpa using this
            exact ⟨by rw [← ey]; rfl, ⟨_, HE3.out, fun _ => rfl⟩, only_trans HO.out ho1⟩
end Go.Proofs.Ytpeecmfchnlmlaa
