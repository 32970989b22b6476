/- Proved: the law 'PenRows' (texts and numbers one behind another, in whatever order, are read in that order) answers true, and what came in reads as it did, where the arguments hold together at most 1048576 values and letters. -/
import Derived.Test.YtpeecmfchnlmlaaHeld
import Derived.Deep.RegionHeld
import Derived.Deep.DrawnRows
namespace Go.Proofs.Ytpeecmfchnlmlaa
open Go.WideShapes Go.ChangeAt Go.RowKit Pen
attribute [local go_sem ↓] Go.wp_at_zero Go.wp_at_succ
set_option linter.unusedVariables false
/-- What is written from the place j of the order on, the first text to come being the i-th, the first number the m-th. -/
def rows (SS : Nat → List Nat) (n1 : Nat) (MM : Nat → Nat) (n2 : Nat) (OO : Nat → Bool) : Nat → Nat → Nat → Nat → List Nat
  | 0, _, _, _ => []
  | k + 1, j, i, m => if OO j = true ∧ i < n1 then text (SS i) ++ rows SS n1 MM n2 OO k (j + 1) (i + 1) m else if m < n2 then num (MM m) ++ rows SS n1 MM n2 OO k (j + 1) i (m + 1) else rows SS n1 MM n2 OO k (j + 1) i m
def pres (SS : Nat → List Nat) : Nat → Nat
  | 0 => 0
  | n + 1 => pres SS n + (SS n).length
theorem pres_le (SS : Nat → List Nat) (i n : Nat) (h : i ≤ n) : pres SS i ≤ pres SS n := by
  induction n with
  | zero => obtain rfl : i = 0 := by omega
            exact Nat.le_refl _
  | succ n ih =>
    by_cases hi : i = n + 1
    · subst hi; exact Nat.le_refl _
    · have := ih (by omega)
      rw [pres]; omega
theorem pres_one (SS : Nat → List Nat) (i n : Nat) (h : i < n) : (SS i).length ≤ pres SS n := by
  have h1 := pres_le SS (i + 1) n h
  rw [pres] at h1
  omega
theorem rows_len (SS : Nat → List Nat) (n1 : Nat) (MM : Nat → Nat) (n2 : Nat) (OO : Nat → Bool) (hS : ∀ i, i < n1 → (SS i).length < 9223372036854775808) (hM : ∀ i, i < n2 → MM i < 9223372036854775808) (k : Nat) :
    ∀ j i m, i ≤ n1 → pres SS i + (rows SS n1 MM n2 OO k j i m).length ≤ pres SS n1 + 10 * k := by
  induction k with
  | zero => intro j i m hi; have := pres_le SS i n1 hi; simp [rows]; omega
  | succ k ih =>
    intro j i m hi
    rw [rows]
    split
    · rename_i h
      have h1 := ih (j + 1) (i + 1) m (by omega)
      have h2 := num_len10 _ (hS i h.2)
      rw [pres] at h1
      rw [List.length_append, text, List.length_append]
      omega
    · split
      · rename_i h1 h
        have h2 := ih (j + 1) i (m + 1) hi
        have h3 := num_len10 _ (hM m h)
        rw [List.length_append]
        omega
      · have := ih (j + 1) i m hi
        omega
/-- What the walk is told of a slice that came in. -/
def RowV (w : World) (a : Option Addr) (n : Nat) (f : Nat → Value) : Prop := n = 0 ∨ ∃ b off, a = some ⟨b, off, none⟩ ∧ b < w.heap.size ∧ ∀ i, i < n → w.cell? ⟨b, off + i, none⟩ = some (f i)
theorem RowV.at {w W : World} {a : Option Addr} {n : Nat} {f : Nat → Value} (h : RowV w a n f) (hb : Below w.heap.size w W) (i : Nat) (hi : i < n) : ∃ b off, a = some ⟨b, off, none⟩ ∧ W.cell? ⟨b, off + i, none⟩ = some (f i) := by
  rcases h with h | ⟨b, off, ha, hlt, hc⟩
  · omega
  · exact ⟨b, off, ha, (hb.cell (p := ⟨b, off + i, none⟩) hlt).trans (hc i hi)⟩
theorem RowV.all {w : World} {a : Option Addr} {n : Nat} {f : Nat → Value} (h : RowV w a n f) (i : Nat) (hi : i < n) : ∃ b off, a = some ⟨b, off, none⟩ ∧ Hid (∀ W, Below w.heap.size w W → W.cell? ⟨b, off + i, none⟩ = some (f i)) := by
  rcases h with h | ⟨b, off, ha, hlt, hc⟩
  · omega
  · exact ⟨b, off, ha, fun W hb => (hb.cell (p := ⟨b, off + i, none⟩) hlt).trans (hc i hi)⟩
theorem rowV_of {w : World} {x : Addr} {n : Nat} {f : Nat → Value} (h : ∀ i, i < n → w.cell? (x.add i) = some (f i)) : RowV w (some x) n f := by
  by_cases h0 : n = 0
  · exact .inl h0
  · obtain ⟨b, off, spot⟩ := x
    have hc := h 0 (by omega)
    have hspot : spot = none := by simpa [Addr.add] using World.cell?_spot hc
    subst hspot
    refine .inr ⟨b, off, rfl, by have := block_lt_of_cell hc; simpa [Addr.add] using this, fun i hi => ?_⟩
    have hadd : (⟨b, off, none⟩ : Addr).add i = ⟨b, off + i, none⟩ := by unfold Addr.add; split <;> simp_all
    rw [← hadd]
    exact h i hi
theorem bytes_all {base : Nat} {w : World} {q : Nat} {o : Option Nat} {l : List Nat} (hz : l = [] → o = none) (hl : l.length ≤ 900000000) (h : PenAt base w q o l) :
    Calls Try.prog 16 #[.pointer (some ⟨q, 0, none⟩)] w fun e w' => ∃ a cap', e = .returned (.slice a l.length cap') ∧ Row w' a l ∧ Below w.heap.size w w' := by
  by_cases h0 : l = []
  · obtain rfl := hz h0
    subst h0
    exact (bytes_nil h).mono fun e w' ⟨he, hw⟩ => ⟨none, 0, he, row_nil _ _, by rw [hw]; exact Below.refl _ _⟩
  · refine (bytes_any h0 hl h).mono ?_
    rintro e w' ⟨g, cap', he, h1, h2, _, _⟩
    exact ⟨_, cap', he, h1, h2⟩
theorem penRows_long (a1 a2 a3 : Option Addr) (n1 c1 n2 c2 n3 c3 : Nat) (w : World) (h : 40 < n1 ∨ 40 < n2 ∨ 100 < n3) :
    Calls Try.prog 7 #[.slice a1 n1 c1, .slice a2 n2 c2, .slice a3 n3 c3] w fun e w' => e = .returned (.bool true) ∧ Below w.heap.size w w' := by
  have h2 : (40 : Int) < (n1 : Int) ∨ (¬ (40 : Int) < (n1 : Int) ∧ (40 : Int) < (n2 : Int)) ∨ (¬ (40 : Int) < (n1 : Int) ∧ ¬ (40 : Int) < (n2 : Int) ∧ (100 : Int) < (n3 : Int)) := by omega
  clear h
  rcases h2 with g1 | ⟨g1, g2⟩ | ⟨g1, g2, g3⟩
  all_goals
    go_enter Try.func7, Try.ntmps7
    go_wp2_with fail
    refine (awake_any _).mono ?_
    rintro e w0 ⟨rfl, hb0⟩
    go_wp2_with fail
    go_ret
    exact ⟨rfl, hb0⟩
set_option maxRecDepth 20000 in
set_option maxHeartbeats 4000000 in
theorem penRows_walk (a1 a2 a3 : Option Addr) (n1 c1 n2 c2 n3 c3 : Nat) (SS : Nat → ByteArray) (MM : Nat → Nat) (OO : Nat → Bool) (w : World) (h1 : n1 ≤ 40) (h2 : n2 ≤ 40) (h3 : n3 ≤ 100)
    (r1 : RowV w a1 n1 fun i => .string (SS i)) (r2 : RowV w a2 n2 fun i => .int .u32 (MM i : Int)) (r3 : RowV w a3 n3 fun i => .bool (OO i))
    (hM : ∀ i, i < n2 → MM i < 4294967296) (hP : pres (fun i => lst (SS i)) n1 ≤ 1048576) :
    Calls Try.prog 7 #[.slice a1 n1 c1, .slice a2 n2 c2, .slice a3 n3 c3] w fun e w' => e = .returned (.bool true) ∧ Below w.heap.size w w' := by
  have g1 : ¬ (40 : Int) < (n1 : Int) := by omega
  have g2 : ¬ (40 : Int) < (n2 : Int) := by omega
  have g3 : ¬ (100 : Int) < (n3 : Int) := by omega
  have HR1 := hid r1
  have HR2 := hid r2
  have HR3 := hid r3
  have HM := hid hM
  have HSz : Hid (∀ i, i < n1 → (SS i).size ≤ 1048576) := fun i hi => by
    have := pres_one (fun i => lst (SS i)) i n1 hi
    simp only [lst_len] at this
    omega
  obtain ⟨T, hT⟩ : ∃ T, rows (fun i => lst (SS i)) n1 MM n2 OO n3 0 0 0 = T := ⟨_, rfl⟩
  have hTl : T.length ≤ 1050000 := by
    have := rows_len (fun i => lst (SS i)) n1 MM n2 OO (fun i hi => by rw [lst_len]; have := HSz.out i hi; omega) (fun i hi => by have := hM i hi; omega) n3 0 0 0 (by omega)
    rw [hT, pres] at this
    omega
  have HTe := hid hT
  clear r1 r2 r3 hM hT hP
  go_enter Try.func7, Try.ntmps7
  go_wp2_with fail
  refine (awake_any _).mono ?_
  rintro e w0 ⟨rfl, hb0⟩
  have hp0 := PenAt.new w0.heap.size w0 (Nat.le_refl _)
  have hbb : Below w.heap.size w (w0.alloc (.cells #[.slice none 0 0] 27)) := hb0.alloc hb0.size _
  have hbs := hb0.size
  clear hb0
  go_wp2_with fail
  generalize w0.alloc (.cells #[.slice none 0 0] 27) = W0 at hp0 hbb ⊢
  generalize w0.heap.size = p at hp0 hbs ⊢
  have HP0 := hid hp0
  have HB0 := hid hbb
  clear hp0 hbb
  go_loopg [8, 9, 10] n3 (fun k x y z wr => ∃ (i m j : Nat) (pre : List Nat) (o : Option Nat), j + k = n3 ∧ i ≤ n1 ∧ m ≤ n2 ∧ x = .int .i64 (i : Int) ∧ y = .int .i64 (m : Int) ∧ z = .int .i64 (j : Int) ∧ PenAt p wr p o pre ∧ pre ++ rows (fun i => lst (SS i)) n1 MM n2 OO k j i m = T ∧ (pre = [] → o = none) ∧ Below w.heap.size w wr)
  case atStart => exact ⟨0, 0, 0, [], none, by omega, by omega, by omega, rfl, rfl, rfl, HP0.out, HTe.out, fun _ => rfl, HB0.out⟩
  case round =>
    obtain ⟨i, m, j, pre, o, hj, hi, hm, rfl, rfl, rfl, hp, hpre, hz, hb⟩ := hrel
    have HJ := hid hj
    have HP := hid hp
    have HPre := hid hpre
    have HZ := hid hz
    have HB := hid hb
    have hpl : pre.length ≤ 1050000 := by have := congrArg List.length hpre; rw [List.length_append] at this; omega
    clear hj hp hpre hz hb HP0 HB0
    by_cases hlt : j < n3
    · have j1 : (j : Int) < (n3 : Int) := by omega
      have j0 : (0 : Int) ≤ (j : Int) := by omega
      obtain ⟨b3, off3, rfl, hc3⟩ := HR3.out.at HB.out j hlt
      obtain ⟨k, rfl⟩ : ∃ k, gk = k + 1 := ⟨gk - 1, by have := HJ.out; omega⟩
      have hstep := HPre.out
      rw [rows] at hstep
      by_cases hc : OO j = true ∧ i < n1
      · obtain ⟨ho, hi1⟩ := hc
        rw [if_pos ⟨ho, hi1⟩, ← List.append_assoc] at hstep
        have HStep := hid hstep
        rw [ho] at hc3
        have i1 : (i : Int) < (n1 : Int) := by omega
        have i0 : (0 : Int) ≤ (i : Int) := by omega
        obtain ⟨b1, off1, rfl, hc1⟩ := HR1.out.at HB.out i hi1
        have hsz := HSz.out i hi1
        obtain ⟨s, hs⟩ : ∃ s, SS i = s := ⟨_, rfl⟩
        rw [hs] at hc1 hsz
        have HS := hid hs
        clear hs hstep HPre
        go_wp2_with fail
        refine (wtext_any s (by omega) (by omega) HP.out).mono ?_
        rintro e w1 ⟨rfl, o1, hp1, ho1⟩
        have hb1 := HB.out.trans ((ho1.pen HP.out).mono hbs)
        clear hc1 hc3
        go_wp2_with fail
        go_roundg k
        case measure => omega
        case rel =>
          have e1 := HJ.out
          exact ⟨i + 1, m, j + 1, _, o1, by omega, by omega, hm, by go_num, rfl, by go_num, hp1, by rw [← HS.out]; exact HStep.out, fun e => absurd e (by rw [text]; simp [num_ne]), hb1⟩
      · rw [if_neg hc] at hstep
        have cs : (OO j = true ∧ ¬ (i : Int) < (n1 : Int)) ∨ OO j = false := by
          by_cases h : OO j = true
          · have hh : ¬ i < n1 := fun x => hc ⟨h, x⟩
            exact .inl ⟨h, by omega⟩
          · exact .inr (by simpa using h)
        by_cases hm1 : m < n2
        · rw [if_pos hm1, ← List.append_assoc] at hstep
          have HStep := hid hstep
          have m1 : (m : Int) < (n2 : Int) := by omega
          have m0 : (0 : Int) ≤ (m : Int) := by omega
          obtain ⟨b2, off2, rfl, hc2⟩ := HR2.out.at HB.out m hm1
          have hx := HM.out m hm1
          obtain ⟨x, hxe⟩ : ∃ x, MM m = x := ⟨_, rfl⟩
          rw [hxe] at hx hc2
          have HX := hid hxe
          clear hxe hstep HPre hc
          rcases cs with ⟨c1, c2⟩ | c1
          all_goals
            rw [c1] at hc3
            clear c1
            go_wp2_with fail
            refine (wnum_nat x (by omega) (by omega) HP.out).mono ?_
            rintro e w1 ⟨rfl, o1, hp1, ho1, _⟩
            have hb1 := HB.out.trans ((ho1.pen HP.out).mono hbs)
            clear hc2 hc3
            go_wp2_with fail
            go_roundg k
            case measure => omega
            case rel =>
              have e1 := HJ.out
              exact ⟨i, m + 1, j + 1, _, o1, by omega, hi, by omega, rfl, by go_num, by go_num, hp1, by rw [← HX.out]; exact HStep.out, fun e => absurd e (by simp [num_ne]), hb1⟩
        · rw [if_neg hm1] at hstep
          have HStep := hid hstep
          have m1 : ¬ (m : Int) < (n2 : Int) := by omega
          clear hstep HPre hc
          rcases cs with ⟨c1, c2⟩ | c1
          all_goals
            rw [c1] at hc3
            clear c1
            go_wp2_with fail
            go_roundg k
            case measure => omega
            case rel =>
              have e1 := HJ.out
              exact ⟨i, m, j + 1, pre, o, by omega, hi, hm, rfl, rfl, by go_num, HP.out, HStep.out, HZ.out, HB.out⟩
    · have j1 : ¬ (j : Int) < (n3 : Int) := by omega
      obtain rfl : gk = 0 := by have := HJ.out; omega
      obtain rfl : pre = T := by have := HPre.out; simpa [rows] using this
      go_wp2_with fail
      refine (bytes_all HZ.out (by omega) HP.out).mono ?_
      rintro e w1 ⟨aB, cB, rfl, hrB, hbB⟩
      obtain ⟨nT, hnT⟩ : ∃ nT, pre.length = nT := ⟨_, rfl⟩
      rw [hnT]
      go_wp2_with fail
      refine (new_any aB pre nT cB hnT hrB).mono ?_
      rintro e w2 ⟨rfl, rfl⟩
      have he := EyeAt.new w1 pre hrB.1
      have hb1 := HB.out.trans (hbB.mono HB.out.size)
      have hb2 := hb1.alloc hb1.size (.cells #[.string (strOf pre), .bool false] 60)
      have hq := hb1.size
      generalize w1.alloc (.cells #[.string (strOf pre), .bool false] 60) = W2 at he hb2 ⊢
      generalize w1.heap.size = q at he hq ⊢
      rw [← HTe.out] at he
      have HE := hid he
      have HB2 := hid hb2
      clear hrB hbB he hb1 hb2 HP HZ HB HPre HTe hnT HJ
      go_wp2_with fail
      go_loopg [8, 9, 12] n3 (fun k x y z wr => ∃ (i m j : Nat), j + k = n3 ∧ i ≤ n1 ∧ m ≤ n2 ∧ x = .int .i64 (i : Int) ∧ y = .int .i64 (m : Int) ∧ z = .int .i64 (j : Int) ∧ EyeAt wr q (rows (fun i => lst (SS i)) n1 MM n2 OO k j i m) false ∧ Below w.heap.size w wr)
      case atStart => exact ⟨0, 0, 0, by omega, by omega, by omega, rfl, rfl, rfl, HE.out, HB2.out⟩
      case round =>
        clear hlt j1 hi hm hpl
        obtain ⟨i, m, j, hj, hi, hm, rfl, rfl, rfl, he, hb⟩ := hrel
        have HJ := hid hj
        have HEy := hid he
        have HB := hid hb
        clear hj he hb HE HB2
        by_cases hlt : j < n3
        · have j1 : (j : Int) < (n3 : Int) := by omega
          have j0 : (0 : Int) ≤ (j : Int) := by omega
          obtain ⟨b3, off3, rfl, hc3⟩ := HR3.out.at HB.out j hlt
          obtain ⟨k, rfl⟩ : ∃ k, gk = k + 1 := ⟨gk - 1, by have := HJ.out; omega⟩
          have hstep := HEy.out
          rw [rows] at hstep
          by_cases hc : OO j = true ∧ i < n1
          · obtain ⟨ho, hi1⟩ := hc
            rw [if_pos ⟨ho, hi1⟩] at hstep
            rw [ho] at hc3
            have i1 : (i : Int) < (n1 : Int) := by omega
            have i0 : (0 : Int) ≤ (i : Int) := by omega
            obtain ⟨b1, off1, rfl, HC1⟩ := HR1.out.all i hi1
            have hsz := HSz.out i hi1
            have kt := text_any (w := wr.drew) ⟨hstep.1, hstep.2⟩
            rw [eText_read _ _ (by rw [lst_len]; omega), strOf_lst] at kt
            obtain ⟨s, hs⟩ : ∃ s, SS i = s := ⟨_, rfl⟩
            rw [hs] at HC1 hsz kt
            have hbw := HB.out
            have hc1 := HC1.out _ hbw
            clear hs hstep HEy
            go_wp2_with fail
            clear hc3
            go_region_held (fun W => Below w.heap.size w W ∧ W.cell? ⟨b1, off1 + i, none⟩ = some (.string s)) (first | assumption | exact ⟨Below.drew hbw, hc1⟩) (first
              | (go_at_call 20; refine kt.mono ?_; rintro e w5 ⟨rfl, he5, ho5⟩; have hbn := (Below.drew hbw).trans (ho5.below hq (by simp) (Below.drew hbw).size); have hSn : Below w.heap.size w w5 ∧ w5.cell? ⟨b1, off1 + i, none⟩ = some (.string s) := ⟨hbn, HC1.out _ hbn⟩))
            all_goals
              have HE5 := hid he5
              clear he5 ho5 kt hc1
              go_wp2_with fail
              go_roundg k
              case measure => omega
              case rel =>
                have e1 := HJ.out
                exact ⟨i + 1, m, j + 1, by omega, by omega, hm, by go_num, rfl, by go_num, HE5.out, hbn⟩
          · rw [if_neg hc] at hstep
            have cs : (OO j = true ∧ ¬ (i : Int) < (n1 : Int)) ∨ OO j = false := by
              by_cases h : OO j = true
              · have hh : ¬ i < n1 := fun x => hc ⟨h, x⟩
                exact .inl ⟨h, by omega⟩
              · exact .inr (by simpa using h)
            by_cases hm1 : m < n2
            · rw [if_pos hm1] at hstep
              have m1 : (m : Int) < (n2 : Int) := by omega
              have m0 : (0 : Int) ≤ (m : Int) := by omega
              obtain ⟨b2, off2, rfl, HC2⟩ := HR2.out.all m hm1
              have hx := HM.out m hm1
              have kt := num_any (w := wr.drew) ⟨hstep.1, hstep.2⟩
              rw [eNum_read _ _ (by omega)] at kt
              obtain ⟨x, hxe⟩ : ∃ x, MM m = x := ⟨_, rfl⟩
              rw [hxe] at hx HC2 kt
              have hbw := HB.out
              have hc2 := HC2.out _ hbw
              have hwx : IntKind.i64.wrap (x : Int) = (x : Int) := by rw [IntKind.wrap_i64]; omega
              clear hxe hstep HEy hc
              rcases cs with ⟨c1, c2⟩ | c1
              all_goals
                rw [c1] at hc3
                clear c1
                go_wp2_with fail
                clear hc3
                go_region_held (fun W => Below w.heap.size w W ∧ W.cell? ⟨b2, off2 + m, none⟩ = some (.int .u32 (x : Int))) (first | assumption | exact ⟨Below.drew hbw, hc2⟩) (first
                  | (go_at_call 18; refine kt.mono ?_; rintro e w5 ⟨rfl, he5, ho5⟩; have hbn := (Below.drew hbw).trans (ho5.below hq (by simp) (Below.drew hbw).size); have hSn : Below w.heap.size w w5 ∧ w5.cell? ⟨b2, off2 + m, none⟩ = some (.int .u32 (x : Int)) := ⟨hbn, HC2.out _ hbn⟩))
                all_goals
                  have HE5 := hid he5
                  clear he5 ho5 kt hc2
                  go_wp2_with fail
                  go_roundg k
                  case measure => omega
                  case rel =>
                    have e1 := HJ.out
                    exact ⟨i, m + 1, j + 1, by omega, hi, by omega, rfl, by go_num, by go_num, HE5.out, hbn⟩
            · rw [if_neg hm1] at hstep
              have m1 : ¬ (m : Int) < (n2 : Int) := by omega
              have HE5 := hid hstep
              clear hstep HEy hc
              rcases cs with ⟨c1, c2⟩ | c1
              all_goals
                rw [c1] at hc3
                clear c1
                go_wp2_with fail
                go_roundg k
                case measure => omega
                case rel =>
                  have e1 := HJ.out
                  exact ⟨i, m, j + 1, by omega, hi, hm, rfl, rfl, by go_num, HE5.out, HB.out⟩
        · have j1 : ¬ (j : Int) < (n3 : Int) := by omega
          obtain rfl : gk = 0 := by have := HJ.out; omega
          have he9 : EyeAt wr q [] false := by have := HEy.out; simpa [rows] using this
          go_wp2_with fail
          refine (bad_any he9).mono ?_
          rintro e w7 ⟨rfl, rfl⟩
          go_wp2_with fail
          refine (left_any he9).mono ?_
          rintro e w7 ⟨rfl, rfl⟩
          go_wp2_with fail
          go_ret
          exact ⟨rfl, HB.out⟩
end Go.Proofs.Ytpeecmfchnlmlaa
