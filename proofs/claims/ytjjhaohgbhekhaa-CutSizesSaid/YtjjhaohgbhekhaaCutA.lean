/- What Hash, fits and Ends of cut answer. Condition: at most a million bytes. -/
import Derived.Test.YtjjhaohgbhekhaaCMath
import Derived.Test.YtjjhaohgbhekhaaBase
namespace Go.Proofs.Ytjjhaohgbhekhaa
open Go.RowKit
set_option maxRecDepth 4000
theorem hash_out (a : Option Addr) (n cap : Nat) (z : Int) (w : World) (h : z < 0 ∨ (n : Int) ≤ z) :
    Calls Try.prog 11 #[.slice a n cap, .int .i64 z] w fun e w' => e = .returned (.int .u32 0) ∧ w' = w := by
  by_cases h1 : z < 0
  · clear h
    go_enter Try.func11, Try.ntmps11
    go_wp2_with fail
    go_ret
    exact ⟨rfl, rfl⟩
  · have h2 : (n : Int) ≤ z := by omega
    clear h
    go_enter Try.func11, Try.ntmps11
    go_wp2_with fail
    go_ret
    exact ⟨rfl, rfl⟩
theorem hash_any (a : Option Addr) (l : List Nat) (n cap i : Nat) (w : World) (hn : l.length = n) (hcap : n ≤ cap) (hm : n ≤ 1000000) (hr : Row w a l) (hi : i < n) :
    Calls Try.prog 11 #[.slice a n cap, .int .i64 (i : Int)] w fun e w' => e = .returned (.int .u32 (hash l i : Nat)) ∧ w' = w := by
  have h1 : ¬ (i : Int) < 0 := by omega
  have h2 : ¬ (n : Int) ≤ (i : Int) := by omega
  have h2' : (i : Int) < (n : Int) := by omega
  obtain ⟨F, hF⟩ : ∃ F, F = i - 7 := ⟨_, rfl⟩
  obtain ⟨E, hE⟩ : ∃ E, E = i + 1 := ⟨_, rfl⟩
  have hmx : (if (0 : Int) < (i : Int) - 8 + 1 then (i : Int) - 8 + 1 else 0) = (F : Int) := by split <;> omega
  have hmx2 : max (0 : Int) ((i : Int) - 8 + 1) = (F : Int) := by omega
  have hEE : (i : Int) + 1 = (E : Int) := by omega
  have hsl := fun w => slice_mid w a n cap F E (by omega) (by omega)
  have HE := hid hE
  have HF := hid hF
  have HN := hid hn
  have HR := hid hr
  have HI := hid hi
  have HC := hid hcap
  have hi6 : (i : Int) < 1000000 := by omega
  have hE6 : E ≤ cap := by omega
  have hFE : F ≤ E := by omega
  have HRT : Hid (Row w (fromA a F cap) (win l i)) := by
    have := row_drop (row_take hr E) F cap (by rw [List.length_take]; omega)
    rw [hE, hF] at this
    rw [hF]
    exact this
  have HWL : Hid ((win l i).length = E - F) := by show _ = _; rw [win_len l i (by omega)]; omega
  have hNp : 0 < E - F := by omega
  have hNm : ((E - F : Nat) : Int) ≤ 1000001 := by omega
  clear hE hF hn hr hcap hmx2
  obtain ⟨N, hN⟩ : ∃ N, E - F = N := ⟨_, rfl⟩
  rw [hN] at hsl hNp HWL hNm
  obtain ⟨a2, ha2⟩ : ∃ a2, fromA a F cap = a2 := ⟨_, rfl⟩
  rw [ha2] at hsl HRT
  obtain ⟨b, off, rfl, hbl, hcell⟩ : ∃ b off, a2 = some ⟨b, off, none⟩ ∧ b < w.heap.size ∧ ∀ j, j < (win l i).length → w.cell? ⟨b, off + j, none⟩ = some (.int .u8 ((win l i).getD j 0 : Nat)) := by
    rcases HRT.out.2 with h | h
    · have := HWL.out; rw [h] at this; simp at this; omega
    · exact h
  have HT : Hid (∀ x ∈ win l i, x < 256) := HRT.out.1
  have HCL := hid hcell
  have HH : Hid (hash l i = hs (win l i)) := rfl
  clear ha2 hN hcell hbl HRT
  generalize win l i = t at *
  go_enter Try.func11, Try.ntmps11
  go_wp2_with fail
  go_loopg [5, 25] N (fun k v5 v25 wr => ∃ j : Nat, j + k = N ∧ v25 = .int .i64 (j : Int) ∧ v5 = .int .u32 (hs (t.take j) : Nat) ∧ wr = w)
  case atStart => exact ⟨0, by omega, rfl, rfl, rfl⟩
  case round =>
    obtain ⟨j, hj, rfl, rfl, rfl⟩ := hrel
    have HJ := hid hj
    by_cases hjN : j < N
    · have hii : (j : Int) < (N : Int) := by omega
      have hc := HCL.out j (by rw [HWL.out]; exact hjN)
      have hst := hs_take t j (by rw [HWL.out]; exact hjN)
      have hB := getD_lt HT.out j
      have hlt := hs_lt (t.take j)
      generalize t.getD j 0 = x at *
      generalize hs (t.take j) = K0 at *
      have HST := hid hst
      clear hst hj
      go_wp2_with fail
      go_roundg (gk - 1)
      case measure => have := HJ.out; omega
      case rel =>
        refine ⟨j + 1, by have := HJ.out; omega, by go_num, ?_, rfl⟩
        rw [HST.out, st]
        apply congrArg (Value.int .u32)
        omega
    · have hii : ¬ (j : Int) < (N : Int) := by omega
      obtain rfl : j = N := by omega
      rw [List.take_of_length_le (by rw [HWL.out]; exact Nat.le_refl _)]
      have hK := hs_lt t
      generalize hKe : hs t = K at *
      have HKe := hid hKe
      clear hj HJ hKe
      go_wp2_with fail
      go_ret
      exact ⟨by rw [HH.out]; rfl, rfl⟩
theorem fit_bits (h : Nat) (hh : h < 4294967296) : (bits .and .u32 ((h : Int) / 65536) 15 == 0) = fit h := by
  have e : (h : Int) / 65536 = ((h / 65536 : Nat) : Int) := by omega
  have e2 : h / 65536 &&& 15 = h / 65536 % 16 := Nat.and_two_pow_sub_one_eq_mod _ 4
  have := u32_and_nat (h / 65536) 15 (by omega) (by decide)
  rw [e, show (15 : Int) = ((15 : Nat) : Int) from rfl, this, e2]
  unfold fit
  generalize h / 65536 % 16 = y
  cases y with
  | zero => rfl
  | succ y => rfl
theorem fits_any (h : Nat) (hh : h < 4294967296) (w : World) : Calls Try.prog 17 #[.int .u32 (h : Int)] w fun e w' => e = .returned (.bool (fit h)) ∧ w' = w := by
  have hb := fit_bits h hh
  go_enter Try.func17, Try.ntmps17
  go_wp2_with fail
  go_ret
  exact ⟨rfl, rfl⟩
theorem ends_out (a : Option Addr) (n cap : Nat) (z : Int) (w : World) (h : z < 0 ∨ (n : Int) ≤ z) :
    Calls Try.prog 13 #[.slice a n cap, .int .i64 z] w fun e w' => e = .returned (.int .i64 (n : Int)) ∧ w' = w := by
  by_cases h1 : z < 0
  · clear h
    go_enter Try.func13, Try.ntmps13
    go_wp2_with fail
    go_ret
    exact ⟨rfl, rfl⟩
  · have h2 : (n : Int) ≤ z := by omega
    clear h
    go_enter Try.func13, Try.ntmps13
    go_wp2_with fail
    go_ret
    exact ⟨rfl, rfl⟩
theorem ends_any (a : Option Addr) (l : List Nat) (n cap f : Nat) (w : World) (hn : l.length = n) (hcap : n ≤ cap) (hm : n ≤ 1000000) (hr : Row w a l) (hf : f < n) :
    Calls Try.prog 13 #[.slice a n cap, .int .i64 (f : Int)] w fun e w' => e = .returned (.int .i64 (ends l f : Nat)) ∧ w' = w := by
  have h1 : ¬ (f : Int) < 0 := by omega
  have h2 : ¬ (n : Int) ≤ (f : Int) := by omega
  have h2' : (f : Int) < (n : Int) := by omega
  have h6 : (f : Int) < 1000000 := by omega
  have h7 : (n : Int) ≤ 1000000 := by omega
  obtain ⟨E, hE⟩ : ∃ E, E = min (f + 64) l.length := ⟨_, rfl⟩
  obtain ⟨M, hM⟩ : ∃ M, M = E - f := ⟨_, rfl⟩
  have hmx : (if (n : Int) - (f : Int) < 64 then (n : Int) - (f : Int) else 64) = (M : Int) := by split <;> omega
  have hfM : (f : Int) + (M : Int) = (E : Int) := by omega
  have HH := hid (fun i (hi : i < n) => hash_any a l n cap i w hn hcap hm hr hi)
  have HE := hid hE
  have HE2 : Hid (f < E ∧ E ≤ n ∧ E ≤ f + 64) := by refine ⟨?_, ?_, ?_⟩ <;> omega
  have HEND : Hid (∀ r, IsEnd l f r → ends l f = r) := fun r h => ends_eq (by omega) h
  have HX : Hid (f < l.length) := by show _ < _; omega
  have hE6 : (E : Int) ≤ 1000000 := by omega
  clear hE hM hn hcap hr hm
  have h78 : (f : Int) + 8 - 1 = ((f + 7 : Nat) : Int) := by omega
  obtain ⟨S, hS⟩ : ∃ S, f + 7 = S := ⟨_, rfl⟩
  rw [hS] at h78
  have HS := hid hS
  clear hS
  go_enter Try.func13, Try.ntmps13
  go_wp2_with fail
  go_loopg [6] 64 (fun k v6 wr => ∃ i : Nat, i + k = f + 71 ∧ f + 7 ≤ i ∧ v6 = .int .i64 (i : Int) ∧ (∀ j, f + 7 ≤ j → j < i → fit (hash l j) = false) ∧ wr = w)
  case atStart => exact ⟨S, by have := HS.out; omega, by have := HS.out; omega, rfl, fun j h1 h2 => by have := HS.out; omega, rfl⟩
  case round =>
    obtain ⟨i, hi, hlo, rfl, hno, rfl⟩ := hrel
    have HI := hid (And.intro hi hlo)
    have HNO := hid hno
    clear hi hlo hno h78
    by_cases hiE : i < E
    · have hii : (i : Int) < (E : Int) := by omega
      have HK := hid (HH.out i (by have := HE2.out; omega))
      have hlt := hash_lt l i
      have HFI := hid (fun W => fits_any (hash l i) hlt W)
      obtain ⟨H, hH⟩ : ∃ H, hash l i = H := ⟨_, rfl⟩
      rw [hH] at HK HFI hlt
      have HHH := hid hH
      clear hH
      go_wp2_with fail
      refine HK.out.mono ?_
      rintro e w1 ⟨rfl, hw1⟩
      subst hw1
      cases hfit : fit H with
      | true =>
        rw [hfit] at HFI
        have HF := hid hfit
        clear hfit
        go_wp2_with fail
        refine (HFI.out _).mono ?_
        rintro e w2 ⟨rfl, hw2⟩
        subst hw2
        go_wp2_with fail
        go_ret
        have hE2 := HE2.out
        have hIs : IsEnd l f (i + 1) := ⟨by have := HI.out; omega, by have := HE.out; omega, fun j h1 h2 => HNO.out j h1 (by omega), .inr ⟨by have := HI.out; omega, by rw [Nat.add_sub_cancel, HHH.out]; exact HF.out⟩⟩
        rw [HEND.out _ hIs]
        exact ⟨by go_num, rfl⟩
      | false =>
        rw [hfit] at HFI
        have HF := hid hfit
        clear hfit
        go_wp2_with fail
        refine (HFI.out _).mono ?_
        rintro e w2 ⟨rfl, hw2⟩
        subst hw2
        go_wp2_with fail
        go_roundg (gk - 1)
        case measure => have := HI.out; have := HE2.out; omega
        case rel =>
          refine ⟨i + 1, by have := HI.out; have := HE2.out; omega, by have := HI.out; omega, by go_num, fun j h1 h2 => ?_, rfl⟩
          by_cases e : j = i
          · rw [e, HHH.out]; exact HF.out
          · exact HNO.out j h1 (by omega)
    · have hii : ¬ (i : Int) < (E : Int) := by omega
      go_wp2_with fail
      go_ret
      have hE2 := HE2.out
      have hIs : IsEnd l f E := ⟨by omega, by have := HE.out; omega, fun j h1 h2 => HNO.out j h1 (by omega), .inl HE.out⟩
      rw [HEND.out _ hIs]
      exact ⟨rfl, rfl⟩
end Go.Proofs.Ytjjhaohgbhekhaa
