/- What the program's Eye answers, whatever lies before it: what stands there, or Bad from then on. No condition. -/
import Derived.Test.YtenjhmlgimnnoaaPenMem
namespace Go.Proofs.Ytenjhmlgimnnoaa.Pen
open Go.RowKit Pen
theorem cell2 {w : World} {q : Nat} {u v : Value} {t : TypeId} (h : w.heap[q]? = some (.cells #[u, v] t (0, 0))) : w.cell? ⟨q, 0, none⟩ = some u ∧ w.cell? ⟨q, 1, none⟩ = some v := by
  constructor
  · rw [cell_of_row w q 0 _ t (0, 0) h]; rfl
  · rw [cell_of_row w q 1 _ t (0, 0) h]; rfl
theorem set2 {w : World} {q : Nat} {u v : Value} {t : TypeId} (h : w.heap[q]? = some (.cells #[u, v] t (0, 0))) (u' : Value) :
    (w.setCell ⟨q, 0, none⟩ u').heap[q]? = some (.cells #[u', v] t (0, 0)) ∧ (w.setCell ⟨q, 1, none⟩ u').heap[q]? = some (.cells #[u, u'] t (0, 0)) := by
  constructor
  · rw [heap_setCell_same _ _ _ _ _ _ h]; rfl
  · rw [heap_setCell_same _ _ _ _ _ _ h]; rfl
theorem only_set (w : World) (q i : Nat) (u : Value) : Only q none w (w.setCell ⟨q, i, none⟩ u) :=
  ⟨rfl, rfl, rfl, by simp, fun k _ hq _ => Below.heap_setCell _ _ _ k hq⟩
theorem only_trans {q : Nat} {w w1 w2 : World} (h : Only q none w w1) (h1 : Only q none w1 w2) : Only q none w w2 := h.trans h1 (.inl rfl)

theorem left_any {w : World} {q : Nat} {l : List Nat} {bad : Bool} (h : EyeAt w q l bad) :
    Calls Try.prog 37 #[.pointer (some ⟨q, 0, none⟩)] w fun e w' => e = .returned (.int .i64 (l.length : Nat)) ∧ w' = w := by
  have hc := (cell2 h.1).1
  have hs := strOf_size l
  generalize strOf l = s at hc hs
  go_enter Try.func37, Try.ntmps37
  go_wp2
  go_ret
  exact ⟨rfl, rfl⟩
theorem bad_any {w : World} {q : Nat} {l : List Nat} {bad : Bool} (h : EyeAt w q l bad) :
    Calls Try.prog 36 #[.pointer (some ⟨q, 0, none⟩)] w fun e w' => e = .returned (.bool bad) ∧ w' = w := by
  have hc := (cell2 h.1).2
  go_enter Try.func36, Try.ntmps36
  go_wp2
  go_ret
  exact ⟨rfl, rfl⟩
theorem fail_any {w : World} {q : Nat} {l : List Nat} {bad : Bool} (h : EyeAt w q l bad) :
    Calls Try.prog 47 #[.pointer (some ⟨q, 0, none⟩)] w fun e w' => e = .returned (.tuple #[]) ∧ EyeAt w' q [] true ∧ Only q none w w' := by
  have hc := cell2 h.1
  have hf := frozen_of_row w q 0 _ 85 h.1
  have hf1 := frozen_of_row w q 1 _ 85 h.1
  go_enter Try.func47, Try.ntmps47
  go_wp2
  go_end0
  exact ⟨rfl, ⟨(set2 (set2 h.1 (.string ⟨#[]⟩)).1 (.bool true)).2, fun _ => rfl, by simp⟩, only_trans (only_set w q 0 _) (only_set _ q 1 _)⟩
theorem take_any {w : World} {q : Nat} {l : List Nat} {bad : Bool} (n : Nat) (hn : n ≤ 4611686018427387904) (h : EyeAt w q l bad) :
    Calls Try.prog 48 #[.pointer (some ⟨q, 0, none⟩), .int .i64 (n : Nat)] w fun e w' => e = .returned (.string (strOf (eTake n l).1)) ∧ EyeAt w' q (eTake n l).2.1 (bad || (eTake n l).2.2) ∧ Only q none w w' := by
  have HE : Hid (EyeAt w q l bad) := h
  by_cases h1 : l.length < n
  · have g1 : (l.length : Int) < (n : Int) := by omega
    have e1 : eTake n l = ([], [], true) := by unfold eTake; rw [if_pos h1]
    rw [e1]
    go_enter Try.func48, Try.ntmps48
    go_wp2_with fail
    refine (left_any HE.out).mono ?_
    rintro e w1 ⟨rfl, rfl⟩
    go_wp2_with fail
    refine (fail_any HE.out).mono ?_
    rintro e w1 ⟨rfl, he, ho⟩
    go_wp2_with fail
    go_ret
    exact ⟨rfl, by simpa using he, ho⟩
  · have e1 : eTake n l = (l.take n, l.drop n, false) := by unfold eTake; rw [if_neg h1]
    have g1 : ¬ (l.length : Int) < (n : Int) := by omega
    rw [e1]
    by_cases h2 : n = 0
    · subst h2
      go_enter Try.func48, Try.ntmps48
      go_wp2_with fail
      refine (left_any HE.out).mono ?_
      rintro e w1 ⟨rfl, rfl⟩
      go_wp2_with fail
      go_ret
      exact ⟨rfl, by simpa using HE.out, Only.refl _ _ _⟩
    · have g2 : ¬ (n : Int) ≤ 0 := by omega
      have hc := (cell2 h.1).1
      have hf := frozen_of_row w q 0 _ 85 h.1
      have hs := strOf_size l
      obtain ⟨s, hsl⟩ : ∃ s, strOf l = s := ⟨_, rfl⟩
      have HS : Hid (strOf l = s) := hsl
      rw [hsl] at hc hs
      clear hsl h
      go_enter Try.func48, Try.ntmps48
      go_wp2_with fail
      refine (left_any HE.out).mono ?_
      rintro e w1 ⟨rfl, rfl⟩
      go_wp2_with fail
      go_ret
      refine ⟨by rw [← strOf_take, HS.out]; rfl, ⟨?_, ?_, fun x hx => HE.out.2.2 x (List.mem_of_mem_drop hx)⟩, only_set _ _ _ _⟩
      · rw [← strOf_drop, HS.out, Bool.or_false]
        exact (set2 (HS.out ▸ HE.out.1) _).1
      · intro hb
        rw [Bool.or_false] at hb
        rw [HE.out.2.1 hb]; simp
theorem byte_any {w : World} {q : Nat} {l : List Nat} {bad : Bool} (h : EyeAt w q l bad) :
    Calls Try.prog 46 #[.pointer (some ⟨q, 0, none⟩)] w fun e w' => e = .returned (.int .u8 (l.getD 0 0 : Nat)) ∧ EyeAt w' q l.tail (bad || l.isEmpty) ∧ Only q none w w' := by
  have HE : Hid (EyeAt w q l bad) := h
  have kt := take_any 1 (by decide) h
  clear h
  cases l with
  | nil =>
    have e1 : eTake 1 [] = ([], [], true) := by decide
    rw [e1] at kt
    go_enter Try.func46, Try.ntmps46
    go_wp2_with fail
    refine kt.mono ?_
    rintro e w1 ⟨rfl, he, ho⟩
    have e2 : strOf ([], ([] : List Nat), true).1 = ⟨#[]⟩ := rfl
    rw [e2]
    go_wp2_with fail
    go_ret
    exact ⟨rfl, he, ho⟩
  | cons x r =>
    have e1 : eTake 1 (x :: r) = ([x], r, false) := by unfold eTake; rw [if_neg (by simp)]; rfl
    rw [e1] at kt
    have hx := HE.out.2.2 x (by simp)
    have e2 : strOf ([x], r, false).1 = ⟨#[UInt8.ofNat x]⟩ := rfl
    go_enter Try.func46, Try.ntmps46
    go_wp2_with fail
    refine kt.mono ?_
    rintro e w1 ⟨rfl, he, ho⟩
    rw [e2]
    have e3 : (UInt8.ofNat x).toNat = x := by simp [Nat.mod_eq_of_lt hx]
    generalize UInt8.ofNat x = u at e3
    go_wp2_with fail
    go_ret
    exact ⟨by subst e3; rfl, by simpa using he, ho⟩
theorem getD_lt {l : List Nat} (h : ∀ x ∈ l, x < 256) (i : Nat) : l.getD i 0 < 256 := by
  by_cases hi : i < l.length
  · rw [List.getD_eq_getElem?_getD, List.getElem?_eq_getElem hi]; exact h _ (List.getElem_mem hi)
  · rw [List.getD_eq_getElem?_getD, List.getElem?_eq_none (by omega)]; decide
theorem u8_seven (x : Nat) (hx : x < 256) : bits .andNot .u8 (x : Int) 128 = ((x % 128 : Nat) : Int) := by
  have := u8_andNot_nat x 128 hx (by decide)
  have e : x &&& (255 - 128) = x % 128 := Nat.and_two_pow_sub_one_eq_mod x 7
  rw [e] at this
  exact this
theorem num_fit (i n x : Nat) (hi : i < 9) (hn : n < 2 ^ (7 * i)) : n + x % 128 * 2 ^ (7 * i) < 9223372036854775808 := by
  have h1 := acc_lt i n x hn
  have h2 : (2 : Nat) ^ (7 * (i + 1)) ≤ 2 ^ 63 := Nat.pow_le_pow_right (by decide) (by omega)
  have e : (2 : Nat) ^ 63 = 9223372036854775808 := by decide
  omega
theorem num_or (i n x : Nat) (hi : i < 9) (hn : n < 2 ^ (7 * i)) : bits .or .u64 (n : Int) (IntKind.u64.wrap ((x : Int) % 128 * 2 ^ (7 * i))) = ((n + x % 128 * 2 ^ (7 * i) : Nat) : Int) := by
  have hf := num_fit i n x hi hn
  have e : ((x : Int) % 128 * 2 ^ (7 * i)) = ((x % 128 * 2 ^ (7 * i) : Nat) : Int) := by push_cast; rfl
  rw [e, IntKind.wrap_u64, ← acc_or i n x hn]
  have e2 : ((x % 128 * 2 ^ (7 * i) : Nat) : Int) % 18446744073709551616 = ((x % 128 * 2 ^ (7 * i) : Nat) : Int) := by omega
  rw [e2]
  exact u64_or_nat _ _ (by omega) (by omega)
set_option maxRecDepth 20000 in
set_option maxHeartbeats 1000000 in
theorem num_any {w : World} {q : Nat} {l : List Nat} {bad : Bool} (h : EyeAt w q l bad) :
    Calls Try.prog 34 #[.pointer (some ⟨q, 0, none⟩)] w fun e w' => e = .returned (.int .i64 ((eNum 9 0 0 l).1 : Nat)) ∧ EyeAt w' q (eNum 9 0 0 l).2.1 (bad || (eNum 9 0 0 l).2.2) ∧ Only q none w w' := by
  have HE : Hid (EyeAt w q l bad) := h
  obtain ⟨R, hR⟩ : ∃ R, eNum 9 0 0 l = R := ⟨_, rfl⟩
  have HR : Hid (eNum 9 0 0 l = R) := hR
  rw [hR]
  clear hR h
  go_enter Try.func34, Try.ntmps34
  go_wp2_with fail
  go_loopg [3, 6] 9 (fun k u v wr => ∃ (i n : Nat) (lr : List Nat), i + k = 9 ∧ u = .int .u64 (n : Int) ∧ v = .int .i64 (i : Int) ∧ n < 2 ^ (7 * i) ∧ EyeAt wr q lr bad ∧ Only q none w wr ∧ eNum k i n lr = R)
  case atStart => exact ⟨0, 0, l, rfl, rfl, rfl, by decide, HE.out, Only.refl _ _ _, HR.out⟩
  case round =>
    obtain ⟨i, n, lr, hk, rfl, rfl, hn, he, ho, hr⟩ := hrel
    have HK : Hid (i + gk = 9) := hk
    have HN : Hid (n < 2 ^ (7 * i)) := hn
    have HE2 : Hid (EyeAt wr q lr bad) := he
    have HO : Hid (Only q none w wr) := ho
    have HRR : Hid (eNum gk i n lr = R) := hr
    clear hn he ho hr
    by_cases hi : i < 9
    · have i1 : (i : Int) < 9 := by omega
      go_wp2_with fail
      refine (byte_any HE2.out).mono ?_
      rintro e w1 ⟨rfl, he1, ho1⟩
      obtain ⟨x, hx⟩ : ∃ x, lr.getD 0 0 = x := ⟨_, rfl⟩
      have hx2 : x < 256 := by rw [← hx]; exact getD_lt HE2.out.2.2 0
      have h7 : bits .andNot .u8 (x : Int) 128 = ((x % 128 : Nat) : Int) := u8_seven x hx2
      have HX : Hid (lr.getD 0 0 = x) := hx
      rw [hx]
      clear hx
      obtain ⟨y, hy⟩ : ∃ y, n + x % 128 * 2 ^ (7 * i) = y := ⟨_, rfl⟩
      have hor : bits .or .u64 (n : Int) (IntKind.u64.wrap ((x : Int) % 128 * 2 ^ (7 * i))) = (y : Int) := by rw [← hy]; exact num_or i n x hi HN.out
      have hy2 : y < 9223372036854775808 := by rw [← hy]; exact num_fit i n x hi HN.out
      have HY : Hid (n + x % 128 * 2 ^ (7 * i) = y) := hy
      obtain ⟨f, rfl⟩ : ∃ f, gk = f + 1 := ⟨gk - 1, by omega⟩
      have HR2 := HRR.out
      rw [eNum, HX.out, HY.out] at HR2
      clear hy HRR HR
      by_cases h128 : 128 ≤ x
      · have g1 : (128 : Int) ≤ (x : Int) := by omega
        rw [if_pos h128] at HR2
        have HR3 : Hid (eNum f (i + 1) y lr.tail = R) := HR2
        clear HR2
        go_wp2_with fail
        go_roundg f
        case measure => omega
        case rel =>
          have hne : lr.isEmpty = false := by
            cases lr with
            | nil => have := HX.out; simp at this; omega
            | cons a r => rfl
          rw [hne, Bool.or_false] at he1
          exact ⟨i + 1, y, lr.tail, by omega, rfl, by go_num, by rw [← HY.out]; exact acc_lt i n x HN.out, he1, only_trans HO.out ho1, HR3.out⟩
      · have g1 : ¬ (128 : Int) ≤ (x : Int) := by omega
        rw [if_neg h128] at HR2
        by_cases hx0 : x = 0
        · subst hx0
          have hn0 : bits .or .u64 (n : Int) 0 = (n : Int) := by
            have := hor
            have e : n = y := by have := HY.out; simpa using this
            rw [← e] at this
            simpa [IntKind.wrap_u64] using this
          by_cases hi0 : i = 0
          · subst hi0
            obtain rfl : n = 0 := by have := HN.out; simpa using this
            obtain rfl : y = 0 := by have := HY.out; simpa using this.symm
            rw [if_neg (by omega)] at HR2
            have HR3 : Hid ((0, lr.tail, lr.isEmpty) = R) := HR2
            have z1 : bits .andNot .u8 0 128 = 0 := u8_seven 0 (by decide)
            have z2 : bits .or .u64 0 0 = 0 := u64_or_nat 0 0 (by decide) (by decide)
            clear HR2 hor
            go_wp2_with fail
            go_ret
            rw [← HR3.out]
            exact ⟨rfl, he1, only_trans HO.out ho1⟩
          · have g2 : (0 : Int) < (i : Int) := by omega
            rw [if_pos (.inl ⟨rfl, by omega⟩)] at HR2
            have HR3 : Hid ((0, [], true) = R) := HR2
            clear HR2 hor
            go_wp2_with fail
            refine (fail_any he1).mono ?_
            rintro e w2 ⟨rfl, he2, ho2⟩
            go_wp2_with fail
            go_ret
            rw [← HR3.out]
            exact ⟨rfl, by simpa using he2, only_trans HO.out (only_trans ho1 ho2)⟩
        · have g2 : ((x : Int) == 0) = false := by simp; omega
          by_cases hg : 4611686018427387904 < y
          · have g3 : (4611686018427387904 : Int) < (y : Int) := by omega
            rw [if_pos (.inr hg)] at HR2
            have HR3 : Hid ((0, [], true) = R) := HR2
            clear HR2
            go_wp2_with fail
            refine (fail_any he1).mono ?_
            rintro e w2 ⟨rfl, he2, ho2⟩
            go_wp2_with fail
            go_ret
            rw [← HR3.out]
            exact ⟨rfl, by simpa using he2, only_trans HO.out (only_trans ho1 ho2)⟩
          · have g3 : ¬ (4611686018427387904 : Int) < (y : Int) := by omega
            have g4 : wrap64 (y : Int) = (y : Int) := by unfold wrap64; omega
            rw [if_neg (by omega)] at HR2
            have HR3 : Hid ((y, lr.tail, lr.isEmpty) = R) := HR2
            clear HR2
            go_wp2_with fail
            go_ret
            rw [← HR3.out]
            exact ⟨rfl, he1, only_trans HO.out ho1⟩
    · have i1 : ¬ (i : Int) < 9 := by omega
      go_wp2_with fail
      refine (fail_any HE2.out).mono ?_
      rintro e w1 ⟨rfl, he1, ho1⟩
      go_wp2_with fail
      go_ret
      obtain rfl : gk = 0 := by omega
      rw [← HRR.out]
      exact ⟨rfl, by simpa [eNum] using he1, only_trans HO.out ho1⟩
end Go.Proofs.Ytenjhmlgimnnoaa.Pen
