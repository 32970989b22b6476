/- Proved: the law 'CrcSees' (up to 32 bits one behind another that are turned anywhere in a text and its sum: the sum does not fit any more) answers true, and what came in reads as it did. No condition. -/
import Derived.Test.YtoflfendomampaaApp
import Derived.Test.YtoflfendomampaaSee
import Derived.Deep.RegionHeld
import Derived.Deep.DrawnRows
import Derived.Deep.QuietTactic
import Derived.BigQuiet
namespace Go.Proofs.Ytoflfendomampaa
open Go.ChangeShapes Go.WideShapes Go.ChangeAt Go.RowKit Crc
attribute [local go_sem ↓] Go.wp_at_zero Go.wp_at_succ
set_option linter.unusedVariables false
theorem byte_lt {l : List Nat} (h : ∀ x ∈ l, x < 256) (i : Nat) : l.getD i 0 < 256 := by
  by_cases hi : i < l.length
  · rw [List.getD_eq_getElem?_getD, List.getElem?_eq_getElem hi]; exact h _ (List.getElem_mem hi)
  · rw [List.getD_eq_getElem?_getD, List.getElem?_eq_none (by omega)]; decide
theorem bit_of (t i : Nat) (ht : t < 4294967296) : bits .and .u32 ((t : Int) / 2 ^ i) 1 = ((t / 2 ^ i % 2 : Nat) : Int) := by
  have h := u32_low (t / 2 ^ i) (Nat.lt_of_le_of_lt (Nat.div_le_self _ _) ht)
  rw [← h]
  congr 1
theorem turn_of (x r : Nat) (hx : x < 256) (hr : r < 8) : bits .xor .u8 (x : Int) (2 ^ r % 256) = ((x ^^^ 2 ^ r : Nat) : Int) := by
  have hp : (2 : Nat) ^ r < 256 := Nat.pow_lt_pow_right (a := 2) (by omega) (show r < 8 from hr)
  have e : ((2 : Int) ^ r % 256) = ((2 ^ r : Nat) : Int) := by
    have : ((2 ^ r : Nat) : Int) = (2 : Int) ^ r := by simp
    rw [← this]
    have h0 : (0 : Int) ≤ ((2 ^ r : Nat) : Int) := Int.natCast_nonneg _
    have h1 : ((2 ^ r : Nat) : Int) < ((256 : Nat) : Int) := Int.ofNat_lt.2 hp
    exact Int.emod_eq_of_lt h0 h1
  rw [e]
  exact u8_xor_nat x (2 ^ r) hx hp
theorem turn_lt (x r : Nat) (hx : x < 256) (hr : r < 8) : x ^^^ 2 ^ r < 256 :=
  Nat.xor_lt_two_pow (n := 8) hx (Nat.pow_lt_pow_right (a := 2) (by omega) hr)
theorem turn_word {M X : List Nat} {k i turn x : Nat} (hj : (k + i) / 8 < M.length) (hx : M.getD ((k + i) / 8) 0 = x) (hb : turn / 2 ^ i % 2 = 1) (hw : word M = word X ^^^ 2 ^ k * (turn % 2 ^ i)) :
    word (M.set ((k + i) / 8) (x ^^^ 2 ^ ((k + i) % 8))) = word X ^^^ 2 ^ k * (turn % 2 ^ (i + 1)) := by
  rw [← hx, word_bit M _ _ hj, hw, mod_step_one turn i hb, mul_pow_xor, ← Nat.pow_add, show 8 * ((k + i) / 8) + (k + i) % 8 = k + i by omega, Nat.xor_assoc]
theorem take_iff (M l : List Nat) (j : Nat) (hM : j < M.length) (hl : j < l.length) : M.take (j + 1) = l.take (j + 1) ↔ M.take j = l.take j ∧ M.getD j 0 = l.getD j 0 := by
  rw [List.take_succ_eq_append_getElem hM, List.take_succ_eq_append_getElem hl, List.getD_eq_getElem?_getD, List.getD_eq_getElem?_getD, List.getElem?_eq_getElem hM, List.getElem?_eq_getElem hl]
  constructor
  · intro h
    have := List.append_inj h (by simp; omega)
    simpa using this
  · rintro ⟨h1, h2⟩
    simp only [Option.getD_some] at h2
    rw [h1, h2]
theorem Own.drewN {w wr : World} {g : Nat} {m : List Nat} (h : Own w wr g m) (n : Nat) : Own w (wr.drewN n) g m := ⟨h.at_, h.new, ⟨h.low.os, h.low.tape, h.low.output, h.low.size, h.low.block⟩, h.lt⟩
theorem strOf_inj : ∀ (a b : List Nat), a.length = b.length → (∀ x ∈ a, x < 256) → (∀ x ∈ b, x < 256) → (strOf a).data.toList = (strOf b).data.toList → a = b := by
  have key : ∀ (l : List Nat) (s : ByteArray), ((l.map fun n : Nat => (n : Int)).foldl (fun r n => r.push (UInt8.ofNat n.toNat)) s).data.toList = s.data.toList ++ l.map UInt8.ofNat := by
    intro l
    induction l with
    | nil => intro s; simp
    | cons x l ih =>
      intro s
      simp only [List.map_cons, List.foldl_cons, ih]
      simp [ByteArray.push]
  intro a b hl ha hb h
  unfold strOf at h
  rw [key, key] at h
  simp only [List.append_cancel_left_eq] at h
  apply List.ext_getElem hl
  intro i h1 h2
  have e := congrArg (fun l => l[i]?) h
  simp only [List.getElem?_map, List.getElem?_eq_getElem h1, List.getElem?_eq_getElem h2, Option.map_some, Option.some.injEq] at e
  have e2 := congrArg UInt8.toNat e
  have b1 := ha _ (List.getElem_mem h1)
  have b2 := hb _ (List.getElem_mem h2)
  simp at e2
  omega
theorem str_iff {a b : List Nat} (hl : a.length = b.length) (ha : ∀ x ∈ a, x < 256) (hb : ∀ x ∈ b, x < 256) : ((strOf a).toList == (strOf b).toList) = true ↔ a = b := by
  rw [ByteArray.toList_eq, ByteArray.toList_eq]
  constructor
  · intro h
    exact strOf_inj a b hl ha hb (by simpa using h)
  · intro h
    rw [h]
    simp
theorem ret_bool {a b : Bool} (h : a = b) : Ending.returned (.bool a) = .returned (.bool b) := by rw [h]
theorem end_true {b1 b2 sm : Bool} {P T D : Prop} (h : (b1 = true ↔ P) ∧ (b2 = true ↔ D) ∧ (P ↔ T ∧ D)) (hs : sm = true ↔ T) (e : sm = true) : (b1 == b2) = true := by
  have hT := hs.1 e
  have : b1 = true ↔ b2 = true := by rw [h.1, h.2.1, h.2.2]; exact ⟨fun x => x.2, fun x => ⟨hT, x⟩⟩
  cases b1 <;> cases b2 <;> simp_all
theorem end_false {b1 b2 sm : Bool} {P T D : Prop} (h : (b1 = true ↔ P) ∧ (b2 = true ↔ D) ∧ (P ↔ T ∧ D)) (hs : sm = true ↔ T) (e : sm = false) : (!b1) = true := by
  have hT : ¬ T := fun t => by rw [hs.2 t] at e; cases e
  cases b1 with
  | false => rfl
  | true => exact absurd (h.2.2.1 (h.1.1 rfl)).1 hT

set_option maxHeartbeats 2000000 in
theorem crcSees_walk (a : Option Addr) (l : List Nat) (cap cut turn : Nat) (w : World) (hcut : cut < 65536) (ht : turn < 4294967296) (ht0 : ((turn : Int) == 0) = false) (r0 : Row w a l) (k0 : l.length ≤ cap) (hl : l.length ≤ 3000) :
    Calls Try.prog 4 #[.slice a l.length cap, .int .u16 (cut : Int), .int .u32 (turn : Int)] w fun e w' => e = .returned (.bool true) ∧ Below w.heap.size w w' := by
  obtain ⟨n, hn⟩ : ∃ n, l.length = n := ⟨_, rfl⟩
  rw [hn] at k0 hl ⊢
  have HLn : Hid (l.length = n) := hn
  have hlt := r0.1
  have hS0 : ∀ W, Below w.heap.size w W → Calls Try.prog 9 #[.slice a n cap] W fun e w' => e = .returned (.int .u32 (nx 0 l : Nat)) ∧ Below w.heap.size w w' ∧ Below W.heap.size W w' := fun W hW => by
    have h := (sum_at (w := W) (W := W) (cap := cap) hn (r0.below hW) (by omega) (Below.refl _ _))
    exact h.mono fun e w' ⟨he, hb⟩ => ⟨he, hW.trans (hb.mono hW.size), hb⟩
  obtain ⟨S, hSS⟩ : ∃ S, nx 0 l = S := ⟨_, rfl⟩
  have hSlt : S < 4294967296 := by rw [← hSS]; exact nx_lt 0 l
  rw [hSS] at hS0
  have HSS : Hid (nx 0 l = S) := hSS
  have g1 : ¬ (3000 : Int) < (n : Int) := by omega
  obtain ⟨k, hk⟩ : ∃ k, cut % ((n + 4) * 8) = k := ⟨_, rfl⟩
  have hkn : k < (n + 4) * 8 := by rw [← hk]; exact Nat.mod_lt _ (by omega)
  have hkk : (cut : Int) % (((n : Int) + 4) * 8) = (k : Int) := by rw [← hk]; simp
  clear hk hn hSS
  go_enter Try.func4, Try.ntmps4
  go_wp2_with fail
  refine (awake_any _).mono ?_
  rintro e w0 ⟨rfl, hb0⟩
  have hown := owns_empty w w0 hb0
  have hb1 : Below w.heap.size w (w0.alloc (.cells #[] 5)) := hb0.alloc hb0.size _
  have HO : Hid ((w0.alloc (.cells #[] 5)).ownsRow w.heap.size 5 1 (.slice (some ⟨w0.heap.size, 0, none⟩) 0 0) 0 (vals [])) := hown
  have HB0 : Hid (Below w.heap.size w w0) := hb0
  have HB1 : Hid (Below w.heap.size w (w0.alloc (.cells #[] 5))) := hb1
  have HR : Hid (Row (w0.alloc (.cells #[] 5)) a l) := r0.below hb1
  have HN0 : Hid (0 + n ≤ 1000000) := by show _ ≤ _; omega
  clear hown hb1 hb0
  have tok1 : True := trivial
  go_wp2_with (at_builtin; have _t := tok1; refine wpList_append_row w _ rfl _ _ rfl w0.heap.size 0 0 [] rfl HO.out a l n cap rfl HR.out HLn.out rfl HN0.out HB1.out HB0.out.size (by simp) ?_; intro g1 cap1 w1 hown1 hO1 hc1 hm1; clear tok1)
  refine (hS0 _ hO1.low).mono ?_
  rintro e w2 ⟨rfl, hb2, hb2'⟩
  go_wp2_with fail
  refine (bytes_at S hSlt hb2).mono ?_
  rintro e w3 ⟨gB, rfl, hb3, hb3', _, hrB⟩
  have HO2 : Hid (w3.ownsRow w.heap.size 5 1 (.slice (some ⟨g1, 0, none⟩) (0 + n) cap1) (0 + n) (vals ([] ++ l))) := owns_below (owns_below hown1 hb2') hb3'
  rw [Nat.zero_add, List.nil_append] at HO2
  have HRB : Hid (Row w3 (some ⟨gB, 0, none⟩) (four S)) := hrB
  have HB3 : Hid (Below w.heap.size w w3) := hb3
  have HG1 : Hid (w.heap.size ≤ g1) := hO1.new
  have HN4 : Hid (n + 4 ≤ 1000000) := by show _ ≤ _; omega
  clear hown1 hO1 hc1 hm1 hb2 hb2' hb3 hb3' hrB HO HB0 HB1 HR HN0
  have tok2 : True := trivial
  go_wp2_with (at_builtin; have _t := tok2; refine wpList_append_row w _ rfl _ _ rfl g1 n cap1 l rfl HO2.out (some ⟨gB, 0, none⟩) (four S) 4 4 rfl HRB.out rfl HLn.out HN4.out HB3.out HG1.out hlt ?_; intro g cap2 w4 hown4 hO4 hc4 hm4; clear tok2 hown4 HO2)
  obtain ⟨n8, hn8⟩ : ∃ n8, (n + 4) * 8 = n8 := ⟨_, rfl⟩
  have hn8' : ((n : Int) + 4) * 8 = (n8 : Int) := by omega
  rw [hkk, hn8']
  rw [hn8] at hkn
  rw [hn8'] at hkk
  have HN8 : Hid ((n + 4) * 8 = n8) := hn8
  obtain ⟨X, hX⟩ : ∃ X, l ++ four S = X := ⟨_, rfl⟩
  rw [hX] at hO4
  have HX : Hid (l ++ four S = X) := hX
  have hXl : X.length = n + 4 := by rw [← hX, List.length_append, HLn.out]; rfl
  have n8b : n8 ≤ 24032 := by omega
  clear hn8 hn8' hX HB3 HRB HG1 HN4 hkk
  go_loopg [10] 32 (fun t v wr => ∃ (i : Nat) (M : List Nat), i + t = 32 ∧ k + i ≤ n8 ∧ v = .int .i64 (i : Int) ∧ Own w wr g M ∧ M.length = n + 4 ∧ word M = word X ^^^ 2 ^ k * (turn % 2 ^ i))
  case atStart => exact ⟨0, X, by omega, by omega, rfl, hO4, hXl, by simp [Nat.mod_one]⟩
  case round =>
    obtain ⟨i, M, hti, hki, rfl, hM, hMl, hw⟩ := hrel
    have HT : Hid (i + gk = 32) := hti
    have HW : Hid (word M = word X ^^^ 2 ^ k * (turn % 2 ^ i)) := hw
    clear hti hw hO4
    by_cases hgo : i < 32 ∧ k + i < n8
    · obtain ⟨hi, hki2⟩ := hgo
      have i1 : (i : Int) < 32 := by omega
      have i2 : (k : Int) + (i : Int) < (n8 : Int) := by omega
      have HBit : Hid (bits .and .u32 ((turn : Int) / 2 ^ i) 1 = ((turn / 2 ^ i % 2 : Nat) : Int)) := bit_of turn i ht
      have i3 : 0 ≤ ((k : Int) + (i : Int)) / 8 ∧ ((k : Int) + (i : Int)) / 8 < (n : Int) + 4 := by have := HN8.out; omega
      have hj : (k + i) / 8 < M.length := by have := HN8.out; omega
      obtain ⟨x, hx⟩ : ∃ x, M.getD ((k + i) / 8) 0 = x := ⟨_, rfl⟩
      have hc : wr.cell? ⟨g, (k + i) / 8, none⟩ = some (.int .u8 (x : Int)) := by rw [← hx]; exact hM.cell _ hj
      have hf := hM.frozen ((k + i) / 8)
      by_cases hbit : turn / 2 ^ i % 2 = 1
      · have hb1 : (bits .and .u32 ((turn : Int) / 2 ^ i) 1 == 1) = true := by rw [HBit.out, hbit]; rfl
        have Hx : Hid (M.getD ((k + i) / 8) 0 = x) := hx
        have Hb : Hid (turn / 2 ^ i % 2 = 1) := hbit
        have hxl : x < 256 := by rw [← hx]; exact byte_lt hM.lt _
        clear hx hbit
        go_wp2_with fail
        go_roundg (gk - 1)
        case measure => have := HT.out; omega
        case rel =>
          have := HT.out
          rw [turn_of x ((k + i) % 8) hxl (by omega)]
          exact ⟨i + 1, _, by omega, by omega, by go_num, hM.set _ _ (turn_lt x _ hxl (by omega)), by simpa using hMl, turn_word hj Hx.out Hb.out HW.out⟩
      · have hbit0 : turn / 2 ^ i % 2 = 0 := by omega
        have hb1 : (bits .and .u32 ((turn : Int) / 2 ^ i) 1 == 1) = false := by rw [HBit.out, hbit0]; rfl
        have Hb : Hid (turn / 2 ^ i % 2 = 0) := hbit0
        clear hx hbit hbit0 hc hf
        go_wp2_with fail
        go_roundg (gk - 1)
        case measure => have := HT.out; omega
        case rel =>
          have := HT.out
          exact ⟨i + 1, M, by omega, by omega, by go_num, hM, hMl, by rw [mod_step_zero turn i Hb.out]; exact HW.out⟩
    · have hi32 : i ≤ 32 := by have := HT.out; omega
      have hfit := sees l M k i turn hlt hM.lt (by rw [hMl, HLn.out]) hi32 (by rw [HLn.out]; have := HN8.out; omega) (by rw [HSS.out, HX.out]; exact HW.out)
      rw [HSS.out, HX.out, HLn.out] at hfit
      have HF : Hid (four (nx 0 (M.take n)) = M.drop n ↔ M = X) := hfit
      clear hfit HW HT
      have hdone : ¬ ((i : Int) < 32) ∨ ((i : Int) < 32 ∧ ¬ ((k : Int) + (i : Int) < (n8 : Int))) := by omega
      have l9 : (n : Int) ≤ (cap2 : Int) := by omega
      clear hgo hki
      rcases hdone with i1 | ⟨i1, i2⟩
      all_goals
        go_wp2_with fail
        go_loopg [11, 12] n (fun t v u wq => ∃ (j : Nat) (sm : Bool), j + t = n ∧ v = .bool sm ∧ u = .int .i64 (j : Int) ∧ Own w wq g M ∧ (sm = true ↔ M.take j = l.take j))
        case atStart => exact ⟨0, true, by omega, rfl, rfl, hM, by simp⟩
        case round =>
          obtain ⟨j, sm, hj, rfl, rfl, hQ, hsm⟩ := hrel
          have HJ : Hid (j + gk = n) := hj
          have HSM : Hid (sm = true ↔ M.take j = l.take j) := hsm
          clear hj hsm hM
          by_cases hlt2 : j < n
          · obtain ⟨b, off, rfl, hbl, hcell⟩ : ∃ b off, a = some ⟨b, off, none⟩ ∧ b < w.heap.size ∧ ∀ i, i < l.length → w.cell? ⟨b, off + i, none⟩ = some (.int .u8 (l.getD i 0 : Nat)) := by
              rcases r0.2 with h | h
              · have := HLn.out; rw [h] at this; simp at this; omega
              · exact h
            obtain ⟨x, hx⟩ : ∃ x, M.getD j 0 = x := ⟨_, rfl⟩
            obtain ⟨y, hy⟩ : ∃ y, l.getD j 0 = y := ⟨_, rfl⟩
            have hc1 : wr.cell? ⟨g, j, none⟩ = some (.int .u8 (x : Int)) := by rw [← hx]; exact hQ.cell j (by omega)
            have hc2 : wr.cell? ⟨b, off + j, none⟩ = some (.int .u8 (y : Int)) := by rw [← hy]; exact (hQ.low.cell (p := ⟨b, off + j, none⟩) hbl).trans (hcell j (by rw [HLn.out]; omega))
            have hxy : ((x : Int) == (y : Int)) = true ↔ M.getD j 0 = l.getD j 0 := by rw [hx, hy]; simp; omega
            have HXY : Hid (((x : Int) == (y : Int)) = true ↔ M.getD j 0 = l.getD j 0) := hxy
            have j1 : (j : Int) < (n : Int) := by omega
            have j2 : (j : Int) < (n : Int) + 4 := by omega
            have j3 : (0 : Int) ≤ (j : Int) := by omega
            clear hcell hx hy hxy hS0
            cases sm with
            | true =>
              go_wp2_with fail
              go_quiet (fail)
              go_wp2_with fail
              go_roundg (gk - 1)
              case measure => have := HJ.out; omega
              case rel =>
                have h1 := HJ.out
                refine ⟨j + 1, _, by omega, rfl, by go_num, hQ.drewN _, ?_⟩
                rw [HXY.out, take_iff M l j (by omega) (by rw [HLn.out]; omega), ← HSM.out]
                simp
            | false =>
              go_wp2_with fail
              go_quiet (fail)
              go_wp2_with fail
              go_roundg (gk - 1)
              case measure => have := HJ.out; omega
              case rel =>
                have h1 := HJ.out
                refine ⟨j + 1, _, by omega, rfl, by go_num, hQ.drewN _, ?_⟩
                rw [take_iff M l j (by omega) (by rw [HLn.out]; omega), ← HSM.out]
                simp
          · have hj : j = n := by have := HJ.out; omega
            have hsm2 := HSM.out
            rw [hj, show l.take n = l from List.take_of_length_le (by rw [HLn.out]; omega)] at hsm2
            have HSm : Hid (sm = true ↔ M.take n = l) := hsm2
            have j1 : ¬ (j : Int) < (n : Int) := by omega
            have hs1 := fun w => slice_to w (some ⟨g, 0, none⟩) (n + 4) cap2 n (by omega)
            have hs2 := fun w => slice_from w (some ⟨g, 0, none⟩) (n + 4) cap2 n (by omega)
            have hrow := hQ.row
            have hrt := row_take hrow n
            have hrd := row_drop hrow n cap2 (by omega)
            obtain ⟨A2, hA2⟩ : ∃ x, fromA (some ⟨g, 0, none⟩) n cap2 = x := ⟨_, rfl⟩
            rw [hA2, show n + 4 - n = 4 by omega] at hs2
            rw [hA2] at hrd
            have e1 : (M.take n).length = n := by simp; omega
            have e2 : (M.drop n).length = 4 := by simp; omega
            have HB := hQ.low
            have rW := r0.below HB
            have hSx : ∀ W, Below wr.heap.size wr W → Calls Try.prog 9 #[.slice (some ⟨g, 0, none⟩) n cap2] W fun e w' => e = .returned (.int .u32 (nx 0 (M.take n) : Nat)) ∧ Below wr.heap.size wr w' := fun W hW => sum_at e1 hrt (by omega) hW
            have hSb : ∀ W, Below wr.heap.size wr W → Calls Try.prog 9 #[.slice a n cap] W fun e w' => e = .returned (.int .u32 (S : Int)) ∧ Below wr.heap.size wr w' := fun W hW => by
              rw [← HSS.out]; exact sum_at HLn.out rW (by rw [HLn.out]; omega) hW
            have hCx : ∀ W, Below wr.heap.size wr W → (convert 22 9 (.slice A2 4 (cap2 - n))).run Try.prog W = .ok (.string (strOf (M.drop n))) W := str_at hrd e2 (by intro h; rw [h] at e2; simp at e2)
            obtain ⟨S2, hS2⟩ : ∃ S2, nx 0 (M.take n) = S2 := ⟨_, rfl⟩
            have hS2lt : S2 < 4294967296 := by rw [← hS2]; exact nx_lt _ _
            rw [hS2] at hSx
            have HF2 := HF.out
            rw [hS2] at HF2
            have HF3 : Hid (four S2 = M.drop n ↔ M = X) := HF2
            have HR := Below.refl wr.heap.size wr
            have hMlt := hQ.lt
            clear hj hsm2 HSM HJ hrow hrt hrd hA2 e1 hS2 HF HF2 hS0 r0 hQ
            go_wp2_with fail
            refine (hSx _ HR).mono ?_
            rintro e w5 ⟨rfl, hb5⟩
            go_wp2_with fail
            refine (bytes_at S2 hS2lt hb5).mono ?_
            rintro e w6 ⟨gy, rfl, hb6, _, hb6', hry⟩
            have hCy : ∀ W, Below w6.heap.size w6 W → (convert 22 9 (.slice (some ⟨gy, 0, none⟩) 4 4)).run Try.prog W = .ok (.string (strOf (four S2))) W := str_at hry rfl (by simp [four])
            have hCx6 : ∀ W, Below w6.heap.size w6 W → (convert 22 9 (.slice A2 4 (cap2 - n))).run Try.prog W = .ok (.string (strOf (M.drop n))) W := fun W hW => hCx W (hb6.trans (hW.mono hb6.size))
            have hSb6 : ∀ W, Below w6.heap.size w6 W → Calls Try.prog 9 #[.slice a n cap] W fun e w' => e = .returned (.int .u32 (S : Int)) ∧ Below w6.heap.size w6 w' := fun W hW => by
              have := sum_at (w := w6) (cap := cap) HLn.out ((rW.below hb6)) (by rw [HLn.out]; omega) hW
              rw [HSS.out] at this
              exact this
            have q1 := str_iff (a := four S2) (b := M.drop n) (by rw [e2]; rfl) (four_lt hS2lt) (fun x hx => hMlt x (List.mem_of_mem_drop hx))
            have q2 := str_iff (a := M.drop n) (b := four S) (by rw [e2]; rfl) (fun x hx => hMlt x (List.mem_of_mem_drop hx)) (four_lt hSlt)
            have q3 := eq_parts l M (four S)
            rw [HX.out, HLn.out] at q3
            obtain ⟨Q1, hQ1⟩ : ∃ Q, strOf (four S2) = Q := ⟨_, rfl⟩
            obtain ⟨Q2, hQ2⟩ : ∃ Q, strOf (M.drop n) = Q := ⟨_, rfl⟩
            obtain ⟨Q3, hQ3⟩ : ∃ Q, strOf (four S) = Q := ⟨_, rfl⟩
            rw [hQ1] at hCy q1
            rw [hQ2] at hCx6 q1 q2
            rw [hQ3] at q2
            have HQ : Hid (((Q1.toList == Q2.toList) = true ↔ M = X) ∧ ((Q2.toList == Q3.toList) = true ↔ M.drop n = four S) ∧ (M = X ↔ M.take n = l ∧ M.drop n = four S)) := ⟨q1.trans HF3.out, q2, q3⟩
            have HQ3 : Hid (strOf (four S) = Q3) := hQ3
            have HBa : Hid (Below w.heap.size w w6) := HB.trans (hb6.mono HB.size)
            clear q1 q2 q3 hQ1 hQ2 hQ3 hCx hSx hSb hb5 hb6 hry HF3 HR HB rW hs1
            go_wp2_with fail
            go_region_held (fun w' => Below w6.heap.size w6 w') (first | assumption | (refine Below.drew ?_; assumption)) (fail)
            go_wp2_with fail
            cases sm with
            | true =>
              go_region_held (fun w' => Below w6.heap.size w6 w') (first | assumption | (refine Below.drew ?_; assumption) | (refine Below.drew (Below.drew ?_); assumption)) (first
                | (go_at_call 9; refine (hSb6 _ ?_).mono ?_; assumption; rintro e w7 ⟨rfl, hb7⟩)
                | (go_at_call 12; refine (bytes_at (w := w6) S hSlt ?_).mono ?_; assumption; rintro e w8 ⟨gz, rfl, hb8, hb8', hb8'', hg8⟩; replace hg8 := str_at (cap := 4) hg8 (n := 4) rfl (by simp [four]); rw [HQ3.out] at hg8))
              all_goals
                go_wp2_with fail
                go_ret
                refine ⟨ret_bool (end_true (sm := true) HQ.out ⟨fun _ => HSm.out.1 trivial, fun _ => rfl⟩ rfl), HBa.out.trans (Below.mono (B := w6.heap.size) ?_ HBa.out.size)⟩
                assumption
            | false =>
              go_quiet (fail)
              go_wp2_with fail
              go_ret
              exact ⟨ret_bool (end_false HQ.out HSm.out rfl), ⟨HBa.out.os, HBa.out.tape, HBa.out.output, HBa.out.size, HBa.out.block⟩⟩

theorem crcSees_out (a : Option Addr) (n cap cut turn : Nat) (w : World) (hm : n ≤ 9223372036854775807) (hn : 3000 < n ∨ turn = 0) :
    Calls Try.prog 4 #[.slice a n cap, .int .u16 (cut : Int), .int .u32 (turn : Int)] w fun e w' => e = .returned (.bool true) ∧ Below w.heap.size w w' := by
  by_cases h : 3000 < n
  · have g1 : (3000 : Int) < (n : Int) := by omega
    go_enter Try.func4, Try.ntmps4
    go_wp2_with fail
    refine (awake_any _).mono ?_
    rintro e w0 ⟨rfl, hb0⟩
    go_wp2_with fail
    go_ret
    exact ⟨rfl, hb0⟩
  · obtain rfl : turn = 0 := by omega
    have g1 : ¬ (3000 : Int) < (n : Int) := by omega
    go_enter Try.func4, Try.ntmps4
    go_wp2_with fail
    refine (awake_any _).mono ?_
    rintro e w0 ⟨rfl, hb0⟩
    go_wp2_with fail
    go_ret
    exact ⟨rfl, hb0⟩
theorem crcSees_all (a0 : Option Addr) (len0 cap0 : Nat) (z0 : List Int) (a1 : Int) (a2 : Int) (w : World) (w0 : IsRow .u8 w a0 len0 cap0 z0) (w1 : (Lit.int .u16 a1).wf = true) (w2 : (Lit.int .u32 a2).wf = true) :
    Calls Try.prog 4 #[.slice a0 len0 cap0, .int .u16 a1, .int .u32 a2] w fun e w' => e = .returned (.bool true) ∧ Below w.heap.size w w' := by
  obtain ⟨l, rfl, hr, hcap, hm⟩ := bytes_of w0
  obtain ⟨cut, rfl, hcut⟩ := nat_u16 w1
  obtain ⟨turn, rfl, ht⟩ := nat_u32 w2
  unfold maxLen at hm
  by_cases hl : l.length ≤ 3000 ∧ turn ≠ 0
  · exact crcSees_walk a0 l cap0 cut turn w hcut ht (by simp; omega) hr hcap hl.1
  · exact crcSees_out a0 l.length cap0 cut turn w (by omega) (by omega)

set_option maxRecDepth 100000 in
theorem crcSees_lifted (os : Os) (started : os.Started) (H : Type) (enc : TypeId × Value → H) :
    ReturnsInHanded {} Try.checked os 4 .any (Rows.crcSeesSpec.pre6 enc Try.prog Try.f4 Rows.crcSeesRow.domain false) (Rows.crcSeesSpec.post enc Try.prog Try.f4 false true false false) := by
  refine returnsInHanded_of_change (C := Try.checked) own started (by kernel_rfl) Try.func4
    (ChangeSpec.witness6 (enc := enc) (C := Try.checked) false ⟨#[], #[.slice none 0 0, .int .u16 0, .int .u32 0], []⟩ 8 (by kernel_rfl) (by kernel_rfl) (by kernel_rfl) (by kernel_rfl)) ?_
  intro W base args ds gs before hval0 hW hcnd _
  have hval : ∀ (j : Nat) t v, Try.f4.params[j]? = some t → args[j]? = some v → Value.okWide Try.prog W .any base t v := hval0
  have hW' := hW
  obtain ⟨p, q, hA0, hV, rfl, hfz, hnd⟩ := hW
  have hA : DataW.TrodAll enc Try.prog W 0 (fun _ => true) true Try.f4.params.toList args.toList ds p := hA0
  rw [Try.params4] at hA hval
  obtain ⟨v0, vs0, d0, ds0, p0, q0, hargs, rfl, rfl, h0, r0⟩ := trodAll_cons hA
  obtain ⟨v1, vs1, d1, ds1, p1, q1, rfl, rfl, rfl, h1, r1⟩ := trodAll_cons r0
  obtain ⟨v2, vs2, d2, ds2, p2, q2, rfl, rfl, rfl, h2, r2⟩ := trodAll_cons r1
  obtain ⟨rfl, rfl, rfl⟩ := trodAll_nil r2
  obtain rfl : args = #[v0, v1, v2] := by cases args; simp_all
  obtain ⟨rfl, rfl⟩ := trodVars_none hV
  obtain ⟨a0, len0, cap0, rfl⟩ := okWide_slice Try.underlying22 (hval 0 22 v0 rfl rfl)
  have k0 := h0
  have lt0 : ∀ x ∈ p0, x.block < W.heap.size := by obtain ⟨m, hm⟩ := k0; exact DataW.trod_lt m _ _ _ hm
  obtain ⟨z0, w0⟩ : ∃ zs, IsRow .u8 W a0 len0 cap0 zs := by
    obtain ⟨fuel, hf⟩ := h0
    rcases open_ints Try.underlying22 Try.underlying5 (by kernel_rfl) hf with ⟨hcs, _⟩ | ⟨x, l, c, zs, hcs, _, hl, hm, hz, _, hcell, hwz⟩
    · simp [Value.cells] at hcs
      obtain ⟨rfl, rfl, rfl⟩ := hcs
      exact ⟨[], .inl ⟨rfl, rfl, rfl, rfl⟩⟩
    · simp [Value.cells] at hcs
      obtain ⟨rfl, rfl, rfl⟩ := hcs
      exact ⟨zs, .inr ⟨_, rfl, hl, hm, by simpa using hz, hcell, hwz⟩⟩
  obtain ⟨a1, rfl, rfl, rfl, w1⟩ := open_int Try.underlying23 (hval 1 23 v1 rfl rfl) h1
  obtain ⟨a2, rfl, rfl, rfl, w2⟩ := open_int Try.underlying24 (hval 2 24 v2 rfl rfl) h2
  clear hA0 hval0
  refine (crcSees_all a0 len0 cap0 z0 a1 a2 W w0 w1 w2).mono fun e W' ⟨he, bel⟩ => ?_
  subst he
  exact ⟨_, rfl, _, _, _, [], _, [], hW', trodAll_mk1 (shut_bool Try.underlying4 _), (trodAll_cons_mk (Below.trod laidOut (by kernel_rfl) (of_decide_eq_true (by kernel_rfl)) k0 bel lt0) (trodAll_cons_mk (shut_int Try.underlying23 w1) (trodAll_cons_mk (shut_int Try.underlying24 w2) trodAll_mk0))), rfl, bel.frame _, fun h => by cases h⟩

theorem crcSees_over : Rows.crcSeesRow.holds Try.pinned (OpenSpec.ofChange Rows.crcSeesSpec) :=
  OpenClaim.holds_of_wide 4 Try.f4 rfl rfl rfl rfl rfl rfl rfl ⟨rfl, rfl, rfl, rfl, rfl⟩ rfl rfl rfl rfl rfl (by kernel_rfl) Try.func4 (by kernel_rfl)
    (of_decide_eq_true (by kernel_rfl)) (by unfold Func.isWrapper; first | (rw [if_pos (by decide +kernel)]; kernel_rfl) | (rw [if_neg (by decide +kernel)]; exact ⟨rfl, rfl⟩))
    (fun os started H enc _ => crcSees_lifted os started H enc)

theorem crcSees_holds : Rows.CrcSeesSaid := crcSees_over
#print axioms crcSees_holds
end Go.Proofs.Ytoflfendomampaa
