/- What the document's own Eye answers for floats and texts, whatever lies before it: the same as the plain mathematics; and for numbers where something was bad. No condition but the model's own greatest length. -/
import Derived.Test.YtpeecmfchnlmlaaRefNum
namespace Go.Proofs.Ytpeecmfchnlmlaa
open Go.RowKit Pen
set_option maxRecDepth 20000 in
set_option maxHeartbeats 1000000 in
theorem rnum_bad {B : Nat} {w : World} {q : Nat} {l : List Nat} (h : Ref B w q l true) :
    Calls Try.prog 26 #[.pointer (some ⟨q, 0, none⟩)] w fun e w' => e = .returned (.int .i64 0) ∧ Ref B w' q l true ∧ Only q none w w' := by
  have HE := hid h
  clear h
  go_enter Try.func26, Try.ntmps26
  go_wp2_with fail
  go_loopg [3, 4] 0 (fun k u v wr => k = 0 ∧ u = .int .i64 0 ∧ v = .int .i64 0 ∧ wr = w)
  case atStart => exact ⟨rfl, rfl, rfl, rfl⟩
  case round =>
    obtain ⟨rfl, rfl, rfl, rfl⟩ := hrel
    go_wp2_with fail
    refine (rbyte_bad HE.out).mono ?_
    rintro e w1 ⟨rfl, he1, ho1⟩
    have HF := hid (he1.flag true)
    obtain ⟨a, nn, cap, h1, h2, h3, h4, h5, h6⟩ := he1
    have hc := (cell2 h1)
    have hf1 := frozen_of_row w1 q 1 _ 47 h1
    clear h5 h1
    go_wp2_with fail
    go_ret
    exact ⟨rfl, HF.out.1, only_trans ho1 HF.out.2⟩
theorem snum {B : Nat} {w : World} {q : Nat} {l : List Nat} {bad : Bool} (h : Same B w q l bad) :
    Calls Try.prog 26 #[.pointer (some ⟨q, 0, none⟩)] w fun e w' => e = .returned (.int .i64 ((eNum 9 0 0 l).1 : Nat)) ∧ Same B w' q (eNum 9 0 0 l).2.1 (bad || (eNum 9 0 0 l).2.2) ∧ Only q none w w' := by
  obtain ⟨h0, l', hr, hl⟩ := h
  cases bad with
  | true =>
    obtain rfl := h0 rfl
    rw [eNum_nil]
    exact (rnum_bad hr).mono fun e w' ⟨he, h1, h2⟩ => ⟨he, ⟨fun _ => rfl, l', h1, by simp⟩, h2⟩
  | false =>
    obtain rfl := hl rfl
    refine (rnum_ok hr).mono ?_
    rintro e w' ⟨he, ⟨l2, h1, h2⟩, h3⟩
    exact ⟨he, ⟨fun hb => eNum_bad 9 0 0 l' (by simpa using hb), l2, by simpa using h1, fun hb => h2 (by simpa using hb)⟩, h3⟩
set_option maxRecDepth 20000 in
set_option maxHeartbeats 1000000 in
theorem rfl_bad {B : Nat} {w : World} {q : Nat} {l : List Nat} (h : Ref B w q l true) :
    Calls Try.prog 27 #[.pointer (some ⟨q, 0, none⟩)] w fun e w' => e = .returned (.float .f64 0) ∧ Ref B w' q l true ∧ Only q none w w' := by
  have HF := hid (h.flag true)
  obtain ⟨a, n, cap, h1, h2, h3, h4, h5, h6⟩ := h
  have hc := (cell2 h1)
  have hf1 := frozen_of_row w q 1 _ 47 h1
  clear h5 h1
  go_enter Try.func27, Try.ntmps27
  go_wp2_with fail
  go_ret
  exact ⟨rfl, HF.out⟩
set_option maxRecDepth 20000 in
set_option maxHeartbeats 1000000 in
theorem rfl_short {B : Nat} {w : World} {q : Nat} {l : List Nat} (hl : l.length < 8) (h : Ref B w q l false) :
    Calls Try.prog 27 #[.pointer (some ⟨q, 0, none⟩)] w fun e w' => e = .returned (.float .f64 0) ∧ Ref B w' q l true ∧ Only q none w w' := by
  have HF := hid (h.flag true)
  obtain ⟨a, n, cap, h1, h2, h3, h4, h5, h6⟩ := h
  have hc := (cell2 h1)
  have hf1 := frozen_of_row w q 1 _ 47 h1
  have g1 : (n : Int) < 8 := by omega
  clear h5 h1 h2
  go_enter Try.func27, Try.ntmps27
  go_wp2_with fail
  go_ret
  exact ⟨rfl, HF.out⟩
theorem le_horner (l : List Nat) (i : Nat) (hl : ∀ x ∈ l, x < 256) (hi : i < 8) (h8 : 8 ≤ l.length) : le ((l.take 8).drop (i + 1)) * 256 + l.getD i 0 = le ((l.take 8).drop i) ∧ le ((l.take 8).drop i) < 18446744073709551616 := by
  have hlen : i < (l.take 8).length := by simp; omega
  have h1 := le_drop (l.take 8) i hlen
  have e : (l.take 8).getD i 0 = l.getD i 0 := by simp [List.getD, hi]
  rw [e] at h1
  have h2 := le_lt ((l.take 8).drop i) fun x hx => hl x (List.mem_of_mem_take (List.mem_of_mem_drop hx))
  have h3 : (256 : Nat) ^ ((l.take 8).drop i).length ≤ 256 ^ 8 := Nat.pow_le_pow_right (by decide) (by simp; omega)
  have e8 : (256 : Nat) ^ 8 = 18446744073709551616 := by decide
  omega
set_option maxRecDepth 20000 in
set_option maxHeartbeats 1000000 in
theorem rfl_ok {B : Nat} {w : World} {q : Nat} {l : List Nat} (hl : 8 ≤ l.length) (h : Ref B w q l false) :
    Calls Try.prog 27 #[.pointer (some ⟨q, 0, none⟩)] w fun e w' => e = .returned (.float .f64 (le (l.take 8))) ∧ Ref B w' q (l.drop 8) false ∧ Only q none w w' := by
  obtain ⟨a, n, cap, h1, h2, h3, h4, h5, h6⟩ := h
  have HX := Ref.rest 8 h1 h2 h3 h4 h5 h6
  have hc := (cell2 h1)
  have hf0 := frozen_of_row w q 0 _ 47 h1
  obtain ⟨b, off, rfl, hbl, hcell⟩ : ∃ b off, a = some ⟨b, off, none⟩ ∧ b < B ∧ ∀ i, i < l.length → w.cell? ⟨b, off + i, none⟩ = some (.int .u8 (l.getD i 0 : Nat)) := by
    rcases h5.2 with h | h
    · rw [h] at hl; simp at hl
    · exact h
  have hlt := h5.1
  have HCell := hid hcell
  have g1 : ¬ (n : Int) < 8 := by omega
  have hs : (Instr.slice 25 (.slice (some ⟨b, off, none⟩) n cap) (some (.int .i64 8)) none none).run Try.prog w = .ok (.slice (fromA (some ⟨b, off, none⟩) 8 cap) (n - 8) (cap - 8)) w := slice_from w (some ⟨b, off, none⟩) n cap 8 (by omega)
  generalize fromA (some ⟨b, off, none⟩) 8 cap = A at hs HX
  have HLen : Hid (l.length = n) := h2
  have hn8 : 8 ≤ n := by omega
  have HLT := hid hlt
  clear h5 hcell h2 h1 hlt hl
  go_enter Try.func27, Try.ntmps27
  go_wp2_with fail
  go_loopg [3, 4] 8 (fun k u v wr => ∃ y : Nat, k ≤ 8 ∧ u = .int .u64 (y : Int) ∧ v = .int .i64 ((k : Int) - 1) ∧ y = le ((l.take 8).drop k) ∧ wr = w)
  case atStart => exact ⟨0, by decide, rfl, rfl, by simp [le], rfl⟩
  case round =>
    obtain ⟨y, hk8, rfl, rfl, hy, rfl⟩ := hrel
    have HY := hid hy
    clear hy
    by_cases hk : gk = 0
    · subst hk
      have e1 : y = le (l.take 8) := by have := HY.out; simpa using this
      rw [e1]
      have kf := fun w => frombits_any w (le (l.take 8))
      clear HCell
      obtain ⟨Y, hY⟩ : ∃ Y, le (l.take 8) = Y := ⟨_, rfl⟩
      have HYY := hid hY
      rw [hY] at kf ⊢
      clear hY
      go_wp2_with fail
      go_ret
      exact ⟨by rw [HYY.out]; rfl, HX.out⟩
    · obtain ⟨i, rfl⟩ : ∃ i, gk = i + 1 := ⟨gk - 1, by omega⟩
      obtain ⟨hz1, hz2⟩ := le_horner l i HLT.out (by omega) (by rw [HLen.out]; exact hn8)
      rw [← HY.out] at hz1
      have hc1 := HCell.out i (by rw [HLen.out]; omega)
      have hx2 := getD_lt HLT.out i
      obtain ⟨x, hx⟩ : ∃ x, l.getD i 0 = x := ⟨_, rfl⟩
      rw [hx] at hc1 hx2 hz1
      have hv : (((i + 1 : Nat) : Int) - 1) = (i : Int) := by omega
      rw [hv]
      have i1 : (0 : Int) ≤ (i : Int) := by omega
      have i2 : (i : Int) < (n : Int) := by omega
      obtain ⟨Z, hZ⟩ : ∃ Z, le ((l.take 8).drop i) = Z := ⟨_, rfl⟩
      rw [hZ] at hz1 hz2
      have HZ := hid hZ
      have hsum : (y : Int) * 256 + (x : Int) = (Z : Int) := by omega
      have HSum := hid hsum
      have hyb : (y : Int) * 256 < 18446744073709551616 := by omega
      clear hx hv hZ hz1 HX hs hsum
      go_wp2_with fail
      go_roundg i
      case measure => omega
      case rel => exact ⟨Z, by omega, by rw [HSum.out], rfl, HZ.out.symm, rfl⟩
theorem sflt {B : Nat} {w : World} {q : Nat} {l : List Nat} {bad : Bool} (h : Same B w q l bad) :
    Calls Try.prog 27 #[.pointer (some ⟨q, 0, none⟩)] w fun e w' => e = .returned (.float .f64 (eFlt l).1) ∧ Same B w' q (eFlt l).2.1 (bad || (eFlt l).2.2) ∧ Only q none w w' := by
  obtain ⟨h0, l', hr, hl⟩ := h
  cases bad with
  | true =>
    obtain rfl := h0 rfl
    have e0 : eFlt [] = (0, [], true) := by decide +kernel
    rw [e0]
    exact (rfl_bad hr).mono fun e w' ⟨he, h1, h2⟩ => ⟨he, ⟨fun _ => rfl, l', h1, by simp⟩, h2⟩
  | false =>
    obtain rfl := hl rfl
    by_cases h8 : l'.length < 8
    · have e0 : eFlt l' = (0, [], true) := by unfold eFlt eTake; rw [if_pos h8]; rfl
      rw [e0]
      exact (rfl_short h8 hr).mono fun e w' ⟨he, h1, h2⟩ => ⟨he, ⟨fun _ => rfl, l', h1, by simp⟩, h2⟩
    · have e0 : eFlt l' = (le (l'.take 8), l'.drop 8, false) := by unfold eFlt eTake; rw [if_neg h8]
      rw [e0]
      exact (rfl_ok (by omega) hr).mono fun e w' ⟨he, h1, h2⟩ => ⟨he, ⟨by simp, _, h1, by simp⟩, h2⟩
set_option maxHeartbeats 1000000 in
theorem rtext_bad {B : Nat} {w : World} {q : Nat} {l : List Nat} (h : Ref B w q l true) :
    Calls Try.prog 28 #[.pointer (some ⟨q, 0, none⟩)] w fun e w' => e = .returned (.string ⟨#[]⟩) ∧ Ref B w' q l true ∧ Only q none w w' := by
  have HE := hid h
  clear h
  go_enter Try.func28, Try.ntmps28
  go_wp2_with fail
  refine (rnum_bad HE.out).mono ?_
  rintro e w1 ⟨rfl, he1, ho1⟩
  have HF := hid (he1.flag true)
  obtain ⟨a, nn, cap, h1, h2, h3, h4, h5, h6⟩ := he1
  have hc := (cell2 h1)
  have hf1 := frozen_of_row w1 q 1 _ 47 h1
  clear h5 h1
  go_wp2_with fail
  go_ret
  exact ⟨rfl, HF.out.1, only_trans ho1 HF.out.2⟩
set_option maxRecDepth 20000 in
set_option maxHeartbeats 1000000 in
theorem rtext_ok {B : Nat} {w : World} {q : Nat} {l : List Nat} (h : Ref B w q l false) :
    Calls Try.prog 28 #[.pointer (some ⟨q, 0, none⟩)] w fun e w' => e = .returned (.string (strOf (eText l).1)) ∧ (∃ l', Ref B w' q l' (eText l).2.2 ∧ ((eText l).2.2 = false → l' = (eText l).2.1)) ∧ Only q none w w' := by
  have kn := rnum_ok h
  have hle := eNum_le 9 0 0 l
  have hbad := eNum_bad 9 0 0 l
  have HT : Hid (eText l = ((eTake (eNum 9 0 0 l).1 (eNum 9 0 0 l).2.1).1, (eTake (eNum 9 0 0 l).1 (eNum 9 0 0 l).2.1).2.1, (eNum 9 0 0 l).2.2 || (eTake (eNum 9 0 0 l).1 (eNum 9 0 0 l).2.1).2.2)) := rfl
  obtain ⟨n, r, fl, hR⟩ : ∃ n r fl, eNum 9 0 0 l = (n, r, fl) := ⟨_, _, _, rfl⟩
  rw [hR] at kn hle hbad HT
  have HBad : Hid (fl = true → r = []) := hbad
  have hn : n ≤ 4611686018427387904 := hle
  clear hR hbad hle h
  go_enter Try.func28, Try.ntmps28
  go_wp2_with fail
  refine kn.mono ?_
  rintro e w1 ⟨rfl, ⟨l2, he1, hl2⟩, ho1⟩
  clear kn
  cases fl with
  | true =>
    have HR0 := hid (HBad.out rfl)
    have HF := hid (he1.flag true)
    obtain ⟨a, nn, cap, h1, h2, h3, h4, h5, h6⟩ := he1
    have hc := (cell2 h1)
    have hf1 := frozen_of_row w1 q 1 _ 47 h1
    clear h5 h1
    go_wp2_with fail
    go_ret
    have hr := HR0.out
    have e1 : (eText l).1 = [] := by rw [HT.out, hr]; unfold eTake; split <;> simp
    have e2 : (eText l).2.2 = true := by rw [HT.out]; rfl
    rw [e1, e2]
    exact ⟨rfl, ⟨_, HF.out.1, by simp⟩, only_trans ho1 HF.out.2⟩
  | false =>
    obtain rfl : l2 = r := hl2 rfl
    by_cases hlen : l2.length < n
    · have HF := hid (he1.flag true)
      obtain ⟨a, nn, cap, h1, h2, h3, h4, h5, h6⟩ := he1
      have hc := (cell2 h1)
      have hf1 := frozen_of_row w1 q 1 _ 47 h1
      have g1 : (nn : Int) < (n : Int) := by omega
      clear h5 h1 h2
      go_wp2_with fail
      go_ret
      have e1 : eText l = ([], [], true) := by rw [HT.out]; unfold eTake; rw [if_pos hlen]; rfl
      rw [e1]
      exact ⟨rfl, ⟨_, HF.out.1, by simp⟩, only_trans ho1 HF.out.2⟩
    · obtain ⟨a, nn, cap, h1, h2, h3, h4, h5, h6⟩ := he1
      have HX := Ref.rest n h1 h2 h3 h4 h5 h6
      have hc := (cell2 h1)
      have hf0 := frozen_of_row w1 q 0 _ 47 h1
      have hlt := (Array.getElem?_eq_some_iff.1 h1).1
      have g1 : ¬ (nn : Int) < (n : Int) := by omega
      have hs1 := fun w => slice_to w a nn cap n (by omega)
      have hs2 := fun w => slice_from w a nn cap n (by omega)
      have hst := str_any w1 a (l2.take n) n cap (by simp; omega) ((h5.take n).row (by omega))
      have e1 : eText l = (l2.take n, l2.drop n, false) := by rw [HT.out]; unfold eTake; rw [if_neg hlen]; rfl
      have HE := hid e1
      generalize fromA a n cap = A at hs2 HX
      obtain ⟨S, hS⟩ : ∃ S, strOf (l2.take n) = S := ⟨_, rfl⟩
      rw [hS] at hst
      have HS := hid hS
      clear h5 h1 h2 e1 hS hl2
      go_wp2_with fail
      go_ret
      rw [HE.out]
      exact ⟨by rw [HS.out]; rfl, ⟨_, HX.out.1, fun _ => rfl⟩, only_trans ho1 HX.out.2⟩
theorem stext {B : Nat} {w : World} {q : Nat} {l : List Nat} {bad : Bool} (h : Same B w q l bad) :
    Calls Try.prog 28 #[.pointer (some ⟨q, 0, none⟩)] w fun e w' => e = .returned (.string (strOf (eText l).1)) ∧ Same B w' q (eText l).2.1 (bad || (eText l).2.2) ∧ Only q none w w' := by
  obtain ⟨h0, l', hr, hl⟩ := h
  cases bad with
  | true =>
    obtain rfl := h0 rfl
    have e0 : eText [] = ([], [], true) := by decide +kernel
    rw [e0]
    exact (rtext_bad hr).mono fun e w' ⟨he, h1, h2⟩ => ⟨he, ⟨fun _ => rfl, l', h1, by simp⟩, h2⟩
  | false =>
    obtain rfl := hl rfl
    refine (rtext_ok hr).mono ?_
    rintro e w' ⟨he, ⟨l2, h1, h2⟩, h3⟩
    refine ⟨he, ⟨fun hb => ?_, l2, by simpa using h1, fun hb => h2 (by simpa using hb)⟩, h3⟩
    have hb' : (eText l').2.2 = true := by simpa using hb
    unfold eText at hb' ⊢
    simp only [Bool.or_eq_true] at hb'
    unfold eTake at hb' ⊢
    split
    · rfl
    · rename_i hh
      rw [if_neg hh] at hb'
      have h5 := eNum_bad 9 0 0 l' (by simpa using hb')
      simp [h5]
end Go.Proofs.Ytpeecmfchnlmlaa
