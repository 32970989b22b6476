/- What the document's own Frame and Unframe answer. Condition: what comes in is at most a million bytes. -/
import Derived.Test.YthfpjpknmaebbaaFrB
namespace Go.Proofs.Ythfpjpknmaebbaa
open Go.RowKit Pen
open Crc (four nx run)
set_option maxRecDepth 4000
theorem four_mine (c : Nat) (hc : c < 4294967296) (w : World) :
    Calls Try.prog 17 #[.int .u32 (c : Int)] w fun e w' => ∃ y, e = .returned (.slice (some ⟨y, 0, none⟩) 4 4) ∧ Mine w.heap.size w' y 4 4 (four c) ∧ Below w.heap.size w w' := by
  refine (Crc.four_any c hc w).mono ?_
  rintro e w' ⟨rfl, hw⟩
  refine ⟨w.heap.size, rfl, ?_, ?_⟩
  · rw [hw]; exact mine_four w c hc
  · rw [hw]; exact (Below.refl _ _).alloc (Nat.le_refl _) _
theorem ref_n (c : Nat) (hc : c < 4294967296) (a : Option Addr) (l : List Nat) (n cap : Nat) (hn : l.length = n) (w : World) (hr : Row w a l) (hl : n ≤ 1000000) :
    Calls Try.prog 18 #[.int .u32 (c : Int), .slice a n cap] w fun e w' => e = .returned (.int .u32 (nx c l : Nat)) ∧ w' = w := by
  subst hn
  exact Crc.ref_any c hc a l cap w hr hl
set_option maxRecDepth 10000 in
set_option maxHeartbeats 4000000 in
theorem refFrame_any (last boot : Nat) (a : Option Addr) (l : List Nat) (n cap : Nat) (w : World) (hlast : last < 4294967296) (hboot : boot < 2147483648) (hn : l.length = n) (h2 : n ≤ 16384) (hr : Row w a l) :
    Calls Try.prog 12 #[.int .u32 (last : Int), .int .i64 (boot : Int), .slice a n cap] w fun e w' => ∃ g cap', e = .returned (.tuple #[.slice (some ⟨g, 0, none⟩) (n + 16) cap', .int .u32 (nx last l : Nat)]) ∧ Mine w.heap.size w' g (n + 16) cap' (mk last boot l) ∧ Below w.heap.size w w' := by
  have HN := hid (fun W (hW : Below w.heap.size w W) => ref_n last hlast a l n cap hn W (hr.below hW) (by omega))
  have HX := hid (Crc.nx_lt last l)
  have HMK : Hid (mk last boot l = ((((four n ++ four boot) ++ four (nx last (four n ++ four boot))) ++ l) ++ four (nx last l))) := by
    show _ = _
    rw [mk, hn]; simp only [List.append_assoc]
  have HR := hid hr
  have HLN := hid hn
  have HLA := hid hlast
  have HBO := hid hboot
  generalize nx last l = X at *
  obtain ⟨m, hm⟩ : ∃ m, n + 16 = m := ⟨_, rfl⟩
  rw [hm] at ⊢
  have HM := hid hm
  clear hr hn hlast hm
  go_enter Try.func12, Try.ntmps12
  go_wp2_with fail
  refine (four_mine n (by omega) w).mono ?_
  rintro e w1 ⟨y1, rfl, hm1, hb1⟩
  have HM1 := hid hm1
  have HB1 := hid hb1
  clear hm1 hb1
  go_wp2_with fail
  refine (four_mine boot (by omega) w1).mono ?_
  rintro e w2 ⟨y2, rfl, hm2, hb2⟩
  obtain ⟨g3, c3, w3, hrun3, hm3, hb3⟩ := (HM1.out.below hb2).app 23 _ (four boot) 4 4 rfl hm2.row.2 8 rfl (by decide) (Nat.le_trans HB1.out.size hb2.size)
  have HB3 := hid ((HB1.out.trans (hb2.mono HB1.out.size)).trans hb3)
  have HM3 := hid hm3
  have HR3 := hid hrun3
  clear hm2 hb2 hrun3 hm3 hb3 HM1 HB1
  have tok : True := trivial
  go_wp2_with (at_builtin; have _t := tok; refine step_appl 23 rfl _ _ rfl _ _ rfl rfl _ w3 HR3.out ?_; clear tok)
  clear HR3
  refine (HN.out w3 HB3.out).mono ?_
  rintro e w4 ⟨rfl, hw4⟩
  subst hw4
  obtain ⟨g5, c5, w5, hrun5, hm5, hb5⟩ := mine_nil (base := w4.heap.size) 23 _ (four n ++ four boot) 8 c3 HM3.out.1 HM3.out.row.2 (by simp [four]) (by decide) (Nat.le_refl _)
  have HM5 := hid (hm5.low HB3.out.size)
  have HH5 := hid (HM3.out.below hb5)
  have HB5 := hid (HB3.out.trans (hb5.mono HB3.out.size))
  have HR5 := hid hrun5
  clear hm5 hb5 hrun5 HM3 HB3 HN
  have tok : True := trivial
  go_wp2_with (at_builtin; have _t := tok; refine step_appl 23 rfl _ _ rfl _ _ rfl rfl _ w5 HR5.out ?_; clear tok)
  clear HR5
  refine (ref_n last HLA.out _ _ 8 c3 HH5.out.1 w5 HH5.out.row.2 (by decide)).mono ?_
  rintro e w6 ⟨rfl, hw6⟩
  subst hw6
  have HX8 := hid (Crc.nx_lt last (four n ++ four boot))
  generalize hS : nx last (four n ++ four boot) = S at *
  clear hS
  go_wp2_with fail
  refine (four_mine S HX8.out w6).mono ?_
  rintro e w7 ⟨y7, rfl, hm7, hb7⟩
  obtain ⟨gA, cA, wA, hrunA, hmA, hbA⟩ := (HM5.out.below hb7).app 23 _ (four S) 4 4 rfl hm7.row.2 12 rfl (by decide) (Nat.le_trans HB5.out.size hb7.size)
  have HBA := hid ((HB5.out.trans (hb7.mono HB5.out.size)).trans hbA)
  obtain ⟨gB, cB, wB, hrunB, hmB, hbB⟩ := hmA.app 23 a l n cap HLN.out (HR.out.below HBA.out) (12 + n) rfl (by omega) HBA.out.size
  have HBB := hid (HBA.out.trans hbB)
  have HMB := hid hmB
  have HRA := hid hrunA
  have HRB := hid hrunB
  clear hm7 hb7 hrunA hrunB hmA hmB hbA hbB HM5 HB5
  have tokA : True := trivial
  have tokB : True := trivial
  go_wp2_with (first | (at_builtin; have _t := tokA; refine step_appl 23 rfl _ _ rfl _ _ rfl rfl _ wA HRA.out ?_; clear tokA) | (at_builtin; have _t := tokB; refine step_appl 23 rfl _ _ rfl _ _ rfl rfl _ wB HRB.out ?_; clear tokB))
  clear HRA HRB HBA
  refine (four_mine X HX.out wB).mono ?_
  rintro e wC ⟨yC, rfl, hmC, hbC⟩
  obtain ⟨gD, cD, wD, hrunD, hmD, hbD⟩ := (HMB.out.below hbC).app 23 _ (four X) 4 4 rfl hmC.row.2 m (by have := HM.out; omega) (by have := HM.out; omega) (Nat.le_trans HBB.out.size hbC.size)
  have HBD := hid ((HBB.out.trans (hbC.mono HBB.out.size)).trans hbD)
  have HMD := hid hmD
  have HRD := hid hrunD
  clear hmC hbC hrunD hmD hbD HMB HBB
  have tok : True := trivial
  go_wp2_with (at_builtin; have _t := tok; refine step_appl 23 rfl _ _ rfl _ _ rfl rfl _ wD HRD.out ?_; clear tok)
  go_ret2
  refine ⟨gD, cD, rfl, ?_, HBD.out⟩
  rw [HMK.out]
  exact HMD.out
theorem i64_or_nat (a b : Nat) (ha : a < 9223372036854775808) (hb : b < 9223372036854775808) : bits .or .i64 (a : Int) (b : Int) = ((a ||| b : Nat) : Int) := by
  have hx : a ||| b < 2 ^ 63 := Nat.or_lt_two_pow (by omega) (by omega)
  show IntKind.i64.wrap ((BitVec.ofInt 64 (a : Int) ||| BitVec.ofInt 64 (b : Int)).toNat : Int) = _
  have e1 : (BitVec.ofInt 64 (a : Int)).toNat = a := by rw [BitVec.ofInt_natCast, BitVec.toNat_ofNat]; exact Nat.mod_eq_of_lt (by omega)
  have e2 : (BitVec.ofInt 64 (b : Int)).toNat = b := by rw [BitVec.ofInt_natCast, BitVec.toNat_ofNat]; exact Nat.mod_eq_of_lt (by omega)
  rw [BitVec.toNat_or, e1, e2, wrap_i64 _ (by omega)]
/-- A number out of four bytes, step by step. -/
theorem or4 (x0 x1 x2 x3 : Nat) (h0 : x0 < 256) (h1 : x1 < 256) (h2 : x2 < 256) (h3 : x3 < 256) : ∃ y1 y2 : Nat, bits .or .i64 (x0 : Int) ((x1 : Int) * 256) = (y1 : Int) ∧ bits .or .i64 (y1 : Int) ((x2 : Int) * 65536) = (y2 : Int) ∧ bits .or .i64 (y2 : Int) ((x3 : Int) * 16777216) = ((le [x0, x1, x2, x3] : Nat) : Int) := by
  have hl : ∀ x ∈ [x0, x1, x2, x3], x < 256 := by intro x hx; simp at hx; omega
  have a1 := le_or [x0, x1, x2, x3] 1 hl (by simp)
  have a2 := le_or [x0, x1, x2, x3] 2 hl (by simp)
  have a3 := le_or [x0, x1, x2, x3] 3 hl (by simp)
  have v1 : le [x0] = x0 := by show x0 + 256 * 0 = x0; omega
  have v2 : le [x0, x1] = x0 + 256 * x1 := by show x0 + 256 * (x1 + 256 * 0) = _; omega
  have v3 : le [x0, x1, x2] = x0 + 256 * (x1 + 256 * x2) := by show x0 + 256 * (x1 + 256 * (x2 + 256 * 0)) = _; omega
  have b1 : le [x0] ||| x1 * 256 = le [x0, x1] := a1
  have b2 : le [x0, x1] ||| x2 * 65536 = le [x0, x1, x2] := a2
  have b3 : le [x0, x1, x2] ||| x3 * 16777216 = le [x0, x1, x2, x3] := a3
  refine ⟨le [x0, x1], le [x0, x1, x2], ?_, ?_, ?_⟩
  · rw [← b1, v1, show (x1 : Int) * 256 = ((x1 * 256 : Nat) : Int) by omega]
    exact i64_or_nat _ _ (by omega) (by omega)
  · rw [← b2, show (x2 : Int) * 65536 = ((x2 * 65536 : Nat) : Int) by omega]
    exact i64_or_nat _ _ (by omega) (by omega)
  · rw [← b3, show (x3 : Int) * 16777216 = ((x3 * 16777216 : Nat) : Int) by omega]
    exact i64_or_nat _ _ (by omega) (by omega)
theorem take4 (X : List Nat) (h : 4 ≤ X.length) : X.take 4 = [X.getD 0 0, X.getD 1 0, X.getD 2 0, X.getD 3 0] := by
  refine ext_getD (by simp; omega) (fun j hj => ?_)
  have hj4 : j < 4 := by simp at hj; omega
  rw [getD_take _ _ _ hj4]
  rcases (by omega : j = 0 ∨ j = 1 ∨ j = 2 ∨ j = 3) with rfl | rfl | rfl | rfl <;> rfl
set_option maxRecDepth 10000 in
set_option maxHeartbeats 4000000 in
theorem unframe_any (last : Nat) (a : Option Addr) (X : List Nat) (n cap : Nat) (w : World) (hlast : last < 4294967296) (hn : X.length = n) (hcap : n ≤ cap) (hr : Row w a X) :
    Calls Try.prog 14 #[.int .u32 (last : Int), .slice a n cap] w fun e w' => Readen w' last (rd last X) e ∧ Below w.heap.size w w' := by
  by_cases h17 : n < 17
  · have HRD : Hid (rd last X = none) := rd_no (by omega)
    have hi : (n : Int) < 17 := by omega
    clear hr hn hlast
    go_enter Try.func14, Try.ntmps14
    go_wp2_with fail
    refine bodyPost_ret (results_tmp4 rfl _ _ _) rfl ?_
    rw [HRD.out]
    exact ⟨rfl, Below.refl _ _⟩
  have hi : ¬ (n : Int) < 17 := by omega
  obtain ⟨b, off, rfl, hbl, hcell⟩ : ∃ b off, a = some ⟨b, off, none⟩ ∧ b < w.heap.size ∧ ∀ i, i < X.length → w.cell? ⟨b, off + i, none⟩ = some (.int .u8 (X.getD i 0 : Nat)) := by
    rcases hr.2 with h | h
    · rw [h] at hn; simp at hn; omega
    · exact h
  have hLe : le (X.take 4) = le [X.getD 0 0, X.getD 1 0, X.getD 2 0, X.getD 3 0] := by rw [take4 X (by omega)]
  have hBe : le ((X.drop 4).take 4) = le [X.getD 4 0, X.getD 5 0, X.getD 6 0, X.getD 7 0] := by
    rw [take4 (X.drop 4) (by rw [List.length_drop]; omega), getD_drop, getD_drop, getD_drop, getD_drop]
  have c0 := hcell 0 (by omega)
  have l0 := getD_lt hr.1 0
  have n0 : (0 : Int) < (n : Int) := by omega
  have c1 := hcell 1 (by omega)
  have l1 := getD_lt hr.1 1
  have n1 : (1 : Int) < (n : Int) := by omega
  have c2 := hcell 2 (by omega)
  have l2 := getD_lt hr.1 2
  have n2 : (2 : Int) < (n : Int) := by omega
  have c3 := hcell 3 (by omega)
  have l3 := getD_lt hr.1 3
  have n3 : (3 : Int) < (n : Int) := by omega
  have c4 := hcell 4 (by omega)
  have l4 := getD_lt hr.1 4
  have n4 : (4 : Int) < (n : Int) := by omega
  have c5 := hcell 5 (by omega)
  have l5 := getD_lt hr.1 5
  have n5 : (5 : Int) < (n : Int) := by omega
  have c6 := hcell 6 (by omega)
  have l6 := getD_lt hr.1 6
  have n6 : (6 : Int) < (n : Int) := by omega
  have c7 := hcell 7 (by omega)
  have l7 := getD_lt hr.1 7
  have n7 : (7 : Int) < (n : Int) := by omega
  rw [Nat.add_zero] at c0
  generalize X.getD 0 0 = x0 at *
  generalize X.getD 1 0 = x1 at *
  generalize X.getD 2 0 = x2 at *
  generalize X.getD 3 0 = x3 at *
  generalize X.getD 4 0 = x4 at *
  generalize X.getD 5 0 = x5 at *
  generalize X.getD 6 0 = x6 at *
  generalize X.getD 7 0 = x7 at *
  obtain ⟨y1, y2, o1, o2, o3⟩ := or4 x0 x1 x2 x3 l0 l1 l2 l3
  obtain ⟨z1, z2, p1, p2, p3⟩ := or4 x4 x5 x6 x7 l4 l5 l6 l7
  rw [← hLe] at o3
  rw [← hBe] at p3
  have hBlt : le ((X.drop 4).take 4) < 4294967296 := by
    have h := le_lt ((X.drop 4).take 4) (fun x hx => hr.1 x (List.mem_of_mem_drop (List.mem_of_mem_take hx)))
    rw [List.length_take, List.length_drop, Nat.min_eq_left (by omega)] at h
    have e : (256 : Nat) ^ 4 = 4294967296 := by decide
    omega
  have hLlt : le (X.take 4) < 4294967296 := by
    have h := le_lt (X.take 4) (fun x hx => hr.1 x (List.mem_of_mem_take hx))
    rw [List.length_take, Nat.min_eq_left (by omega)] at h
    have e : (256 : Nat) ^ 4 = 4294967296 := by decide
    omega
  have HNO : Hid (¬ (1 ≤ le (X.take 4) ∧ le (X.take 4) ≤ 16384 ∧ le (X.take 4) + 16 ≤ n ∧ le ((X.drop 4).take 4) < 2147483648) → rd last X = none) := fun h => rd_no (by rw [hn]; exact h)
  have HYE : Hid (1 ≤ le (X.take 4) ∧ le (X.take 4) ≤ 16384 ∧ le (X.take 4) + 16 ≤ n ∧ le ((X.drop 4).take 4) < 2147483648 → rd last X = if mk last (le ((X.drop 4).take 4)) ((X.drop 12).take (le (X.take 4))) = X.take (le (X.take 4) + 16) then some ((X.drop 12).take (le (X.take 4)), le ((X.drop 4).take 4)) else none) := fun h => rd_yes rfl rfl rfl (by rw [hn]; exact h)
  have HR := hid hr
  have HLN := hid hn
  have HLA := hid hlast
  clear hr hn hlast hcell hLe hBe
  generalize le (X.take 4) = L at *
  generalize le ((X.drop 4).take 4) = B at *
  generalize rd last X = o at *
  go_enter Try.func14, Try.ntmps14
  go_wp2_with fail
  go_quiet (fail)
  have d4 : (w.drewN nq).cell? { block := b, off := off + 4 } = some (Value.int IntKind.u8 ↑x4) := c4
  have d5 : (w.drewN nq).cell? { block := b, off := off + 5 } = some (Value.int IntKind.u8 ↑x5) := c5
  have d6 : (w.drewN nq).cell? { block := b, off := off + 6 } = some (Value.int IntKind.u8 ↑x6) := c6
  have d7 : (w.drewN nq).cell? { block := b, off := off + 7 } = some (Value.int IntKind.u8 ↑x7) := c7
  have HB0 : Hid (Below w.heap.size w (w.drewN nq)) := ⟨rfl, rfl, rfl, Nat.le_refl _, fun _ _ => rfl⟩
  clear c0 c1 c2 c3 c4 c5 c6 c7 o1 o2 o3 l0 l1 l2 l3
  generalize w.drewN nq = v0 at *
  go_wp2_with fail
  go_quiet (fail)
  have HBQ : Hid (Below w.heap.size w (v0.drewN nq)) := ⟨HB0.out.os, HB0.out.tape, HB0.out.output, HB0.out.size, HB0.out.block⟩
  clear d4 d5 d6 d7 p1 p2 p3 l4 l5 l6 l7 HB0 n0 n1 n2 n3 n4 n5 n6 n7
  generalize v0.drewN nq = v at *
  by_cases hL1 : L < 1
  · have HNN := hid (HNO.out (by omega))
    have q1 : (L : Int) < 1 := by omega
    go_wp2_with fail
    refine bodyPost_ret (results_tmp4 rfl _ _ _) rfl ?_
    rw [HNN.out]
    exact ⟨rfl, HBQ.out⟩
  have q1 : ¬ (L : Int) < 1 := by omega
  by_cases hL2 : 16384 < L
  · have HNN := hid (HNO.out (by omega))
    have q2 : (16384 : Int) < (L : Int) := by omega
    go_wp2_with fail
    refine bodyPost_ret (results_tmp4 rfl _ _ _) rfl ?_
    rw [HNN.out]
    exact ⟨rfl, HBQ.out⟩
  have q2 : ¬ (16384 : Int) < (L : Int) := by omega
  by_cases hB : B < 2147483648
  · have q3 : ¬ (2147483648 : Int) ≤ (B : Int) := by omega
    by_cases hfit : L + 16 ≤ n
    · have q4 : ¬ (n : Int) < (L : Int) + 16 := by omega
      have HYY := hid (HYE.out ⟨by omega, by omega, hfit, hB⟩)
      have hsm : ∀ w, (Instr.slice 23 (.slice (some ⟨b, off, none⟩) n cap) (some (.int .i64 12)) (some (.int .i64 (12 + (L : Int)))) none).run Try.prog w = .ok (.slice (fromA (some ⟨b, off, none⟩) 12 cap) L (cap - 12)) w := fun w => by
        have h := slice_mid w (some ⟨b, off, none⟩) n cap 12 (12 + L) (by omega) (by omega)
        rw [show 12 + L - 12 = L by omega] at h
        exact h
      have hst : ∀ w, (Instr.slice 23 (.slice (some ⟨b, off, none⟩) n cap) none (some (.int .i64 ((L : Int) + 16))) none).run Try.prog w = .ok (.slice (some ⟨b, off, none⟩) (L + 16) cap) w := fun w => slice_to w _ n cap (L + 16) (by omega)
      have hr12 := row_take (row_drop (HR.out.below HBQ.out) 12 cap (by have := HLN.out; omega)) L
      have hl12 : ((X.drop 12).take L).length = L := by rw [List.length_take, List.length_drop]; have := HLN.out; omega
      have HRT := hid (row_take HR.out (L + 16))
      have HRTL : Hid ((X.take (L + 16)).length = L + 16) := by show _ = _; rw [List.length_take]; have := HLN.out; omega
      have HL12 := hid hl12
      have HR12 := hid hr12
      generalize (X.drop 12).take L = r at *
      generalize X.take (L + 16) = T at *
      generalize fromA (some ⟨b, off, none⟩) 12 cap = a12 at *
      clear hr12 hl12
      go_wp2_with fail
      refine (refFrame_any last B a12 r L (cap - 12) v HLA.out hB HL12.out (by omega) HR12.out).mono ?_
      rintro e w3 ⟨g3, c3, rfl, hm3, hb3⟩
      have HB3 := hid (HBQ.out.trans (hb3.mono HBQ.out.size))
      have HR3 := hid (HR12.out.below hb3)
      have s1 : ∀ k, (convert 23 9 (.slice (some ⟨g3, 0, none⟩) (L + 16) c3)).run Try.prog (w3.drewN k) = .ok (.string (strOf (mk last B r))) (w3.drewN k) := fun k => str_any _ _ _ _ _ hm3.1 ⟨hm3.row.2.1, hm3.row.2.2⟩
      have hrt3 := HRT.out.below HB3.out
      have s2 : ∀ k, (convert 23 9 (.slice (some ⟨b, off, none⟩) (L + 16) cap)).run Try.prog (w3.drewN k) = .ok (.string (strOf T)) (w3.drewN k) := fun k => str_any _ _ _ _ _ HRTL.out ⟨hrt3.1, hrt3.2⟩
      have s3 := strs_same (mk last B r) T hm3.2.1 hrt3.1
      clear hm3 hb3 HRT HRTL HR12 hrt3
      generalize strOf (mk last B r) = SA at *
      generalize strOf T = SB at *
      by_cases hE : mk last B r = T
      · rw [decide_eq_true hE] at s3
        rw [if_pos hE] at HYY
        clear hE
        go_wp2_with fail
        go_quiet (fail)
        have HBF : Hid (Below w.heap.size w (w3.drewN nq)) := ⟨HB3.out.os, HB3.out.tape, HB3.out.output, HB3.out.size, HB3.out.block⟩
        have HRF : Hid (Row (w3.drewN nq) a12 r) := ⟨HR3.out.1, HR3.out.2⟩
        clear s1 s2
        generalize w3.drewN nq = w4 at *
        go_wp2_with fail
        refine bodyPost_ret (results_tmp4 rfl _ _ _) rfl ?_
        rw [HYY.out]
        exact ⟨⟨_, _, _, rfl, HL12.out, HRF.out⟩, HBF.out⟩
      · rw [decide_eq_false hE] at s3
        rw [if_neg hE] at HYY
        clear hE
        go_wp2_with fail
        go_quiet (fail)
        have HBF : Hid (Below w.heap.size w (w3.drewN nq)) := ⟨HB3.out.os, HB3.out.tape, HB3.out.output, HB3.out.size, HB3.out.block⟩
        clear s1 s2
        generalize w3.drewN nq = w4 at *
        go_wp2_with fail
        refine bodyPost_ret (results_tmp4 rfl _ _ _) rfl ?_
        rw [HYY.out]
        exact ⟨rfl, HBF.out⟩
    · have HNN := hid (HNO.out (by omega))
      have q4 : (n : Int) < (L : Int) + 16 := by omega
      go_wp2_with fail
      refine bodyPost_ret (results_tmp4 rfl _ _ _) rfl ?_
      rw [HNN.out]
      exact ⟨rfl, HBQ.out⟩
  · have HNN := hid (HNO.out (by omega))
    have q3 : (2147483648 : Int) ≤ (B : Int) := by omega
    go_wp2_with fail
    refine bodyPost_ret (results_tmp4 rfl _ _ _) rfl ?_
    rw [HNN.out]
    exact ⟨rfl, HBQ.out⟩
end Go.Proofs.Ythfpjpknmaebbaa
