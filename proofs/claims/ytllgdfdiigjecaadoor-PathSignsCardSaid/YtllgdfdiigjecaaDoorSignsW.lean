/- PathSigns, as it is walked: one sign: a name is one just if each sign may be, and there are not too many. Condition: internal/bytealg.MaxLen holds an integer. -/
import Derived.Test.YtllgdfdiigjecaaDoorSignsA
namespace Go.Proofs.YtllgdfdiigjecaaDoor
open Go.RowKit
set_option maxRecDepth 4000
set_option linter.unusedVariables false
theorem fill_step (k i : Nat) (hi : i < k) : (List.replicate i (97 : UInt8) ++ List.replicate (k - i) 0).set i 97 = List.replicate (i + 1) 97 ++ List.replicate (k - (i + 1)) 0 := by
  obtain ⟨j, rfl⟩ : ∃ j, k = i + 1 + j := ⟨k - (i + 1), by omega⟩
  have e1 : i + 1 + j - i = j + 1 := by omega
  have e2 : i + 1 + j - (i + 1) = j := by omega
  rw [e1, e2, List.set_append_right _ _ (by simp), List.length_replicate, Nat.sub_self, List.replicate_succ, List.set_cons_zero, List.replicate_succ' (n := i), List.append_assoc]
  rfl
theorem row_str {w1 w : World} {G k : Nat} {s : Str} (hs : s.length = k) (h : w1.ownsRow G 5 1 (.slice (some ⟨G, 0, none⟩) k k) k (bv s)) (hb : Below w1.heap.size w1 w) : (convert 34 9 (.slice (some ⟨G, 0, none⟩) k k)).run Tryd.prog w = .ok (.string (mk s)) w :=
  str_bytes w G s k hs fun i hi => by
    have h1 := h.cellAt i (by omega)
    rw [bv_get s i hi] at h1
    have hlt := World.block_lt_of_cell? _ _ h1
    exact (hb.cell (p := ⟨G, i, none⟩) hlt).trans h1
set_option maxHeartbeats 400000 in
theorem signs_walk (w : World) (N A : Nat) (C : UInt8) (hN : N < 256) (hA : A < 256) (hm : Max w) : Calls Tryd.prog 6 #[.int .u8 (N : Int), .int .u8 (A : Int), .int .u8 (C.toNat : Int)] w fun e w' => e = .returned (.bool true) ∧ Below w.heap.size w w' := by
  obtain ⟨k, hk⟩ : ∃ k, N % 20 = k := ⟨_, rfl⟩
  have hk20 : k < 20 := by omega
  have hmod : (N : Int) % 20 = (k : Int) := by omega
  have HM := hid (Goes.refl hm)
  have hmk := fun W : World => make_bytes k (by omega) W
  obtain ⟨c, hc⟩ : ∃ c, C.toNat = c := ⟨_, rfl⟩
  have HCC := hid hc
  rw [hc]
  clear hk hm hc
  go_enter Tryd.func6, Tryd.ntmps6
  go_wp2_with fail
  refine (awake_any w HM.out.mx).mono ?_
  rintro e w1 ⟨rfl, hb1⟩
  have HG1 := hid (HM.out.next hb1)
  clear hb1
  have hb2 : Below w1.heap.size w1 (w1.alloc (.cells (bv (List.replicate k 0)).toArray 5)) := (Below.refl _ w1).alloc (Nat.le_refl _) _
  have ho2 := World.ownsRow_lit (e := 5) (size := 1) w1 (bv (List.replicate k 0)).toArray k (Nat.le_refl _) (by unfold maxLen; omega) (by simp [bv])
  obtain ⟨G, hG⟩ : ∃ G, w1.heap.size = G := ⟨_, rfl⟩
  have HGS := hid hG
  go_wp2_with fail
  rw [hmod]
  rw [hG] at ho2 hb2
  obtain ⟨w2, hw2⟩ : ∃ w2, w1.alloc (.cells (bv (List.replicate k 0)).toArray 5) = w2 := ⟨_, rfl⟩
  rw [hw2] at ho2 hb2 ⊢
  have HO2 := hid ho2
  have HB2 := hid hb2
  clear ho2 hb2 hw2 hG hmk hmod
  go_loopg [9] k (fun m v wr => ∃ i : Nat, i ≤ k ∧ m = k - i ∧ v = .int .i64 i ∧ Hid (Below G w1 wr) ∧ Hid (wr.ownsRow G 5 1 (.slice (some ⟨G, 0, none⟩) k k) k (bv (List.replicate i 97 ++ List.replicate (k - i) 0))))
  case atStart => exact ⟨0, by omega, by omega, rfl, HB2, hid (by have := HO2.out; simpa using this)⟩
  case round =>
    obtain ⟨i, hi, rfl, rfl, HB, HO⟩ := hrel
    by_cases hlt : i < k
    · have hcl := HO.out.cellAt i (by omega)
      rw [bv_get _ i (by simp; omega)] at hcl
      have hfr := HO.out.frozenAt i
      obtain ⟨z, hz⟩ : ∃ z : Int, (((List.replicate i 97 ++ List.replicate (k - i) (0 : UInt8)).getD i 0).toNat : Int) = z := ⟨_, rfl⟩
      rw [hz] at hcl
      have hst := HO.out.stored i (.int .u8 97)
      have e97 : bv ((List.replicate i (97 : UInt8) ++ List.replicate (k - i) 0).set i 97) = (bv (List.replicate i (97 : UInt8) ++ List.replicate (k - i) 0)).set i (.int .u8 97) := bv_set _ i 97
      rw [← e97, fill_step k i hlt] at hst
      have HST := hid hst.1
      clear hz hst e97
      go_wp2_with fail
      go_roundg (k - (i + 1))
      case measure => omega
      case rel => exact ⟨i + 1, by omega, by omega, by go_num, hid (HB.out.setCell (p := ⟨G, i, none⟩) (Nat.le_refl G) (.int .u8 97)), HST⟩
    · have hik : i = k := by omega
      subst hik
      have ho := HO.out
      rw [Nat.sub_self, List.replicate_zero, List.append_nil] at ho
      have HO3 := hid ho
      have HB3 : Hid (Goes w wr) := hid ⟨HG1.out.below.trans (HB.out.mono (by rw [← HGS.out]; exact HG1.out.below.size)), HG1.out.mx.below (by rw [HGS.out]; exact HB.out)⟩
      clear ho HO
      obtain ⟨w3, hw3⟩ : ∃ w3, wr = w3 := ⟨_, rfl⟩
      subst hw3

      by_cases hk0 : i = 0
      · have gk : ¬ 0 < (i : Int) := by omega
        have gk0 : ((i : Int) == 0) = true := by rw [beq_iff_eq]; omega
        obtain ⟨s, hs⟩ : ∃ s : Str, [] = s := ⟨_, rfl⟩
        have ho := HO3.out
        rw [hk0, List.replicate_zero, hs] at ho
        have CV : Hid (∀ W, Below wr.heap.size wr W → (convert 34 9 (.slice (some ⟨G, 0, none⟩) i i)).run Tryd.prog W = .ok (.string (mk s)) W) := fun W hW => by rw [hk0]; exact row_str (by rw [← hs]; rfl) ho hW
        have k8 := fun w1 (h : Max w1) => split_any w1 (47 :: s) h
        have k10 := fun w1 => name_any w1 s
        rw [show nameB s = false by rw [← hs]; rfl] at k10
        have HSO : Hid (c ≠ 47 → (splitP (47 :: s)).isSome = true) := hid (fun _ => by rw [← hs]; rfl)
        have HSL : Hid (s.length ≤ 1000) := hid (by rw [← hs]; simp)
        have hap : (ByteArray.mk #[47]) ++ mk s = mk (47 :: s) := mk_app [47] s
        have hsz1 : (ByteArray.mk #[47]).size = 1 := rfl
        have hsz2 : (mk s).size ≤ 1000 := by rw [mk_size]; exact HSL.out
        obtain ⟨ks, hks⟩ : ∃ ks, (mk s).size = ks := ⟨_, rfl⟩
        rw [hks] at hsz2
        obtain ⟨S, hS⟩ : ∃ S, mk s = S := ⟨_, rfl⟩
        obtain ⟨T, hT⟩ : ∃ T, mk (47 :: s) = T := ⟨_, rfl⟩
        rw [hS] at CV k10 hap hks
        rw [hT] at k8 hap
        have K8 := hid k8
        have K10 := hid k10
        clear k8 k10 hS hT hs ho hk0
        have hcv := CV.out wr (Below.refl _ _)
        go_wp2_with fail
        refine (K8.out _ HB3.out.mx).mono ?_
        rintro e w5 ⟨ho5, hb5⟩
        have HB5 := hid (HB3.out.next hb5)
        have hcv5 := CV.out w5 hb5
        clear hb5 hcv
        cases hsp : splitP (47 :: s) with
        | none =>
          rw [hsp] at ho5
          have he : e = _ := ho5
          subst he
          by_cases h47 : c = 47
          · have g47 : ((c : Int) == 47) = true := by rw [beq_iff_eq]; omega
            clear h47 hsp ho5
            go_wp2_with fail
            refine (K10.out w5).mono ?_
            rintro e w6 ⟨rfl, hb6⟩
            have HB6 := hid (HB5.out.next hb6)
            clear hb6
            go_wp2_with fail
            go_ret
            exact ⟨rfl, HB6.out.below⟩
          · have g47 : ((c : Int) == 47) = false := by rw [beq_eq_false_iff_ne]; omega
            have hso := HSO.out h47
            rw [hsp] at hso
            simp at hso
        | some l =>
          rw [hsp] at ho5
          obtain ⟨a5, c5, rfl, hc5, ht5⟩ := ho5
          by_cases h47 : c = 47
          · have g47 : ((c : Int) == 47) = true := by rw [beq_iff_eq]; omega
            clear h47 hsp hc5 ht5
            go_wp2_with fail
            refine (K10.out w5).mono ?_
            rintro e w6 ⟨rfl, hb6⟩
            have HB6 := hid (HB5.out.next hb6)
            clear hb6
            go_wp2_with fail
            go_ret
            exact ⟨rfl, HB6.out.below⟩
          · have g47 : ((c : Int) == 47) = false := by rw [beq_eq_false_iff_ne]; omega
            have hso := HSO.out h47
            rw [hsp] at hso
            clear h47 hsp hso hc5 ht5
            go_wp2_with fail
            refine (K10.out w5).mono ?_
            rintro e w6 ⟨rfl, hb6⟩
            have HB6 := hid (HB5.out.next hb6)
            clear hb6
            go_wp2_with fail
            go_ret
            exact ⟨rfl, HB6.out.below⟩
      · have gk : 0 < (i : Int) := by omega
        have gk0 : ((i : Int) == 0) = false := by rw [beq_eq_false_iff_ne]; omega
        obtain ⟨q, hq⟩ : ∃ q, A % i = q := ⟨_, rfl⟩
        have hqi : q < i := by rw [← hq]; exact Nat.mod_lt _ (by omega)
        have hmod : (A : Int) % (i : Int) = (q : Int) := by rw [← hq]; exact (Int.natCast_emod A i).symm
        have hcl := HO3.out.cellAt q (by omega)
        rw [bv_get _ q (by simp; omega)] at hcl
        have hfr := HO3.out.frozenAt q
        obtain ⟨z, hz⟩ : ∃ z : Int, (((List.replicate i (97 : UInt8)).getD q 0).toNat : Int) = z := ⟨_, rfl⟩
        rw [hz] at hcl
        have hst := HO3.out.stored q (.int .u8 (c : Int))
        have ec : bv (signs i q C) = (bv (List.replicate i (97 : UInt8))).set q (.int .u8 (c : Int)) := by rw [← HCC.out]; exact bv_set _ q C
        rw [← ec] at hst
        obtain ⟨s, hs⟩ : ∃ s, signs i q C = s := ⟨_, rfl⟩
        have hsl : s.length = i := by rw [← hs]; exact signs_len i q C
        have hnm : nameB s = true ↔ i ≤ 16 ∧ okb C = true ∧ s ≠ [46] ∧ s ≠ [46, 46] := by rw [← hs]; exact signs_name i q C hqi
        have hso : C ≠ 47 → (splitP (47 :: s)).isSome = (nameB s || decide (s.length = 0)) := fun h => splitP_one s (by rw [← hs]; exact signs_none i q C h) (by omega)
        rw [hs] at hst
        have hC47 : c ≠ 47 → C ≠ 47 := fun h e => h (by rw [← HCC.out, e]; rfl)
        have HSO1 : Hid (c ≠ 47 → (splitP (47 :: s)).isSome = nameB s) := hid (fun h => by rw [hso (hC47 h), hsl, decide_eq_false (by omega), Bool.or_false])
        have HNM := hid hnm
        have HSL : Hid (s.length ≤ 1000) := hid (by omega)
        have HSI := hid hsl
        have hB4 := HB.out.setCell (p := ⟨G, q, none⟩) (Nat.le_refl G) (.int .u8 (c : Int))
        have HB4 : Hid (Goes w (wr.setCell ⟨G, q, none⟩ (.int .u8 (c : Int)))) := hid ⟨HG1.out.below.trans (hB4.mono (by rw [← HGS.out]; exact HG1.out.below.size)), HG1.out.mx.below (by rw [HGS.out]; exact hB4)⟩
        obtain ⟨w4, hw4⟩ : ∃ w4, wr.setCell ⟨G, q, none⟩ (.int .u8 (c : Int)) = w4 := ⟨_, rfl⟩
        rw [hw4] at hst HB4
        have CV : Hid (∀ W, Below w4.heap.size w4 W → (convert 34 9 (.slice (some ⟨G, 0, none⟩) i i)).run Tryd.prog W = .ok (.string (mk s)) W) := fun W hW => row_str hsl hst.1 hW
        have k8 := fun w1 (h : Max w1) => split_any w1 (47 :: s) h
        have k10 := fun w1 => name_any w1 s
        have HTL := hid (mk_toList s)
        have hap : (ByteArray.mk #[47]) ++ mk s = mk (47 :: s) := mk_app [47] s
        have hsz1 : (ByteArray.mk #[47]).size = 1 := rfl
        have hsz2 : (mk s).size ≤ 1000 := by rw [mk_size]; exact HSL.out
        obtain ⟨ks, hks⟩ : ∃ ks, (mk s).size = ks := ⟨_, rfl⟩
        rw [hks] at hsz2
        obtain ⟨S, hS⟩ : ∃ S, mk s = S := ⟨_, rfl⟩
        obtain ⟨T, hT⟩ : ∃ T, mk (47 :: s) = T := ⟨_, rfl⟩
        rw [hS] at CV k10 hap hks
        rw [hT] at k8 hap
        have K8 := hid k8
        rw [hS] at HTL
        have HOK := hid (okb_of C)
        rw [HCC.out] at HOK
        clear k8 hS hT hs hst ec hz hsl hnm hso hC47 hB4 hq hk0
        by_cases hc0 : 16 < i
        · have g : ¬ (i : Int) ≤ 16 := by omega
          have hF : nameB s = false := by cases h : nameB s with | false => rfl | true => exact absurd (HNM.out.1 h) (fun e => by have := e.1; omega)
          rw [hF] at k10
          have HSO : Hid (c ≠ 47 → (splitP (47 :: s)).isSome = false) := hid (fun h => by rw [HSO1.out h, hF])
          have K10 := hid k10
          have hcv0 := CV.out w4 (Below.refl _ _)
          clear k10 hF hc0
          go_wp2_with fail
          clear hcv0
          have hcv := CV.out w4 (Below.refl _ _)
          go_wp2_with fail
          refine (K8.out _ HB4.out.mx).mono ?_
          rintro e w5 ⟨ho5, hb5⟩
          have HB5 := hid (HB4.out.next hb5)
          have hcv5 := CV.out w5 hb5
          clear hb5 hcv
          cases hsp : splitP (47 :: s) with
          | none =>
            rw [hsp] at ho5
            have he : e = _ := ho5
            subst he
            by_cases h47 : c = 47
            · have g47 : ((c : Int) == 47) = true := by rw [beq_iff_eq]; omega
              clear h47 hsp ho5
              go_wp2_with fail
              refine (K10.out w5).mono ?_
              rintro e w6 ⟨rfl, hb6⟩
              have HB6 := hid (HB5.out.next hb6)
              clear hb6
              go_wp2_with fail
              go_ret
              exact ⟨rfl, HB6.out.below⟩
            · have g47 : ((c : Int) == 47) = false := by rw [beq_eq_false_iff_ne]; omega
              have hso := HSO.out h47
              rw [hsp] at hso
              clear h47 hsp hso ho5
              go_wp2_with fail
              refine (K10.out w5).mono ?_
              rintro e w6 ⟨rfl, hb6⟩
              have HB6 := hid (HB5.out.next hb6)
              clear hb6
              go_wp2_with fail
              go_ret
              exact ⟨rfl, HB6.out.below⟩
          | some l =>
            rw [hsp] at ho5
            obtain ⟨a5, c5, rfl, hc5, ht5⟩ := ho5
            by_cases h47 : c = 47
            · have g47 : ((c : Int) == 47) = true := by rw [beq_iff_eq]; omega
              clear h47 hsp hc5 ht5
              go_wp2_with fail
              refine (K10.out w5).mono ?_
              rintro e w6 ⟨rfl, hb6⟩
              have HB6 := hid (HB5.out.next hb6)
              clear hb6
              go_wp2_with fail
              go_ret
              exact ⟨rfl, HB6.out.below⟩
            · have g47 : ((c : Int) == 47) = false := by rw [beq_eq_false_iff_ne]; omega
              have hso := HSO.out h47
              rw [hsp] at hso
              simp at hso
        have p1 : (i : Int) ≤ 16 := by omega
        by_cases hc1 : c < 33
        · have g : ¬ 33 ≤ (c : Int) := by omega
          have hF : nameB s = false := by cases h : nameB s with | false => rfl | true => exact absurd (HNM.out.1 h) (fun e => by have h := e.2.1; rw [HOK.out] at h; simp at h; omega)
          rw [hF] at k10
          have HSO : Hid (c ≠ 47 → (splitP (47 :: s)).isSome = false) := hid (fun h => by rw [HSO1.out h, hF])
          have K10 := hid k10
          have hcv0 := CV.out w4 (Below.refl _ _)
          clear k10 hF hc1
          go_wp2_with fail
          clear hcv0
          have hcv := CV.out w4 (Below.refl _ _)
          go_wp2_with fail
          refine (K8.out _ HB4.out.mx).mono ?_
          rintro e w5 ⟨ho5, hb5⟩
          have HB5 := hid (HB4.out.next hb5)
          have hcv5 := CV.out w5 hb5
          clear hb5 hcv
          cases hsp : splitP (47 :: s) with
          | none =>
            rw [hsp] at ho5
            have he : e = _ := ho5
            subst he
            by_cases h47 : c = 47
            · have g47 : ((c : Int) == 47) = true := by rw [beq_iff_eq]; omega
              clear h47 hsp ho5
              go_wp2_with fail
              refine (K10.out w5).mono ?_
              rintro e w6 ⟨rfl, hb6⟩
              have HB6 := hid (HB5.out.next hb6)
              clear hb6
              go_wp2_with fail
              go_ret
              exact ⟨rfl, HB6.out.below⟩
            · have g47 : ((c : Int) == 47) = false := by rw [beq_eq_false_iff_ne]; omega
              have hso := HSO.out h47
              rw [hsp] at hso
              clear h47 hsp hso ho5
              go_wp2_with fail
              refine (K10.out w5).mono ?_
              rintro e w6 ⟨rfl, hb6⟩
              have HB6 := hid (HB5.out.next hb6)
              clear hb6
              go_wp2_with fail
              go_ret
              exact ⟨rfl, HB6.out.below⟩
          | some l =>
            rw [hsp] at ho5
            obtain ⟨a5, c5, rfl, hc5, ht5⟩ := ho5
            by_cases h47 : c = 47
            · have g47 : ((c : Int) == 47) = true := by rw [beq_iff_eq]; omega
              clear h47 hsp hc5 ht5
              go_wp2_with fail
              refine (K10.out w5).mono ?_
              rintro e w6 ⟨rfl, hb6⟩
              have HB6 := hid (HB5.out.next hb6)
              clear hb6
              go_wp2_with fail
              go_ret
              exact ⟨rfl, HB6.out.below⟩
            · have g47 : ((c : Int) == 47) = false := by rw [beq_eq_false_iff_ne]; omega
              have hso := HSO.out h47
              rw [hsp] at hso
              simp at hso
        have p2 : 33 ≤ (c : Int) := by omega
        by_cases hc2 : 126 < c
        · have g : ¬ (c : Int) ≤ 126 := by omega
          have hF : nameB s = false := by cases h : nameB s with | false => rfl | true => exact absurd (HNM.out.1 h) (fun e => by have h := e.2.1; rw [HOK.out] at h; simp at h; omega)
          rw [hF] at k10
          have HSO : Hid (c ≠ 47 → (splitP (47 :: s)).isSome = false) := hid (fun h => by rw [HSO1.out h, hF])
          have K10 := hid k10
          have hcv0 := CV.out w4 (Below.refl _ _)
          clear k10 hF hc2
          go_wp2_with fail
          clear hcv0
          have hcv := CV.out w4 (Below.refl _ _)
          go_wp2_with fail
          refine (K8.out _ HB4.out.mx).mono ?_
          rintro e w5 ⟨ho5, hb5⟩
          have HB5 := hid (HB4.out.next hb5)
          have hcv5 := CV.out w5 hb5
          clear hb5 hcv
          cases hsp : splitP (47 :: s) with
          | none =>
            rw [hsp] at ho5
            have he : e = _ := ho5
            subst he
            by_cases h47 : c = 47
            · have g47 : ((c : Int) == 47) = true := by rw [beq_iff_eq]; omega
              clear h47 hsp ho5
              go_wp2_with fail
              refine (K10.out w5).mono ?_
              rintro e w6 ⟨rfl, hb6⟩
              have HB6 := hid (HB5.out.next hb6)
              clear hb6
              go_wp2_with fail
              go_ret
              exact ⟨rfl, HB6.out.below⟩
            · have g47 : ((c : Int) == 47) = false := by rw [beq_eq_false_iff_ne]; omega
              have hso := HSO.out h47
              rw [hsp] at hso
              clear h47 hsp hso ho5
              go_wp2_with fail
              refine (K10.out w5).mono ?_
              rintro e w6 ⟨rfl, hb6⟩
              have HB6 := hid (HB5.out.next hb6)
              clear hb6
              go_wp2_with fail
              go_ret
              exact ⟨rfl, HB6.out.below⟩
          | some l =>
            rw [hsp] at ho5
            obtain ⟨a5, c5, rfl, hc5, ht5⟩ := ho5
            by_cases h47 : c = 47
            · have g47 : ((c : Int) == 47) = true := by rw [beq_iff_eq]; omega
              clear h47 hsp hc5 ht5
              go_wp2_with fail
              refine (K10.out w5).mono ?_
              rintro e w6 ⟨rfl, hb6⟩
              have HB6 := hid (HB5.out.next hb6)
              clear hb6
              go_wp2_with fail
              go_ret
              exact ⟨rfl, HB6.out.below⟩
            · have g47 : ((c : Int) == 47) = false := by rw [beq_eq_false_iff_ne]; omega
              have hso := HSO.out h47
              rw [hsp] at hso
              simp at hso
        have p3 : (c : Int) ≤ 126 := by omega
        by_cases hc3 : c = 47
        · have g : ((c : Int) != 47) = false := by rw [bne_eq_false_iff_eq]; omega
          have hF : nameB s = false := by cases h : nameB s with | false => rfl | true => exact absurd (HNM.out.1 h) (fun e => by have h := e.2.1; rw [HOK.out] at h; simp at h; omega)
          rw [hF] at k10
          have HSO : Hid (c ≠ 47 → (splitP (47 :: s)).isSome = false) := hid (fun h => by rw [HSO1.out h, hF])
          have K10 := hid k10
          have hcv0 := CV.out w4 (Below.refl _ _)
          have HC3 := hid hc3
          clear k10 hF hc3
          go_wp2_with fail
          clear hcv0
          have hcv := CV.out w4 (Below.refl _ _)
          go_wp2_with fail
          refine (K8.out _ HB4.out.mx).mono ?_
          rintro e w5 ⟨ho5, hb5⟩
          have HB5 := hid (HB4.out.next hb5)
          have hcv5 := CV.out w5 hb5
          clear hb5 hcv
          cases hsp : splitP (47 :: s) with
          | none =>
            rw [hsp] at ho5
            have he : e = _ := ho5
            subst he
            by_cases h47 : c = 47
            · have g47 : ((c : Int) == 47) = true := by rw [beq_iff_eq]; omega
              clear h47 hsp ho5
              go_wp2_with fail
              refine (K10.out w5).mono ?_
              rintro e w6 ⟨rfl, hb6⟩
              have HB6 := hid (HB5.out.next hb6)
              clear hb6
              go_wp2_with fail
              go_ret
              exact ⟨rfl, HB6.out.below⟩
            · exact absurd HC3.out h47
          | some l =>
            rw [hsp] at ho5
            obtain ⟨a5, c5, rfl, hc5, ht5⟩ := ho5
            by_cases h47 : c = 47
            · have g47 : ((c : Int) == 47) = true := by rw [beq_iff_eq]; omega
              clear h47 hsp hc5 ht5
              go_wp2_with fail
              refine (K10.out w5).mono ?_
              rintro e w6 ⟨rfl, hb6⟩
              have HB6 := hid (HB5.out.next hb6)
              clear hb6
              go_wp2_with fail
              go_ret
              exact ⟨rfl, HB6.out.below⟩
            · exact absurd HC3.out h47
        have p4 : ((c : Int) != 47) = true := by rw [bne_iff_ne]; omega
        by_cases DD5 : s = [46]
        · have g : (S.toList == [46]) = true := by rw [HTL.out, DD5]; rfl
          have hF : nameB s = false := by cases h : nameB s with | false => rfl | true => exact absurd (HNM.out.1 h) (fun e => e.2.2.1 DD5)
          rw [hF] at k10
          have HSO : Hid (c ≠ 47 → (splitP (47 :: s)).isSome = false) := hid (fun h => by rw [HSO1.out h, hF])
          have K10 := hid k10
          have hcv0 := CV.out w4 (Below.refl _ _)
          clear k10 hF DD5
          go_wp2_with fail
          clear hcv0
          have hcv := CV.out w4 (Below.refl _ _)
          go_wp2_with fail
          refine (K8.out _ HB4.out.mx).mono ?_
          rintro e w5 ⟨ho5, hb5⟩
          have HB5 := hid (HB4.out.next hb5)
          have hcv5 := CV.out w5 hb5
          clear hb5 hcv
          cases hsp : splitP (47 :: s) with
          | none =>
            rw [hsp] at ho5
            have he : e = _ := ho5
            subst he
            by_cases h47 : c = 47
            · exact absurd h47 hc3
            · have g47 : ((c : Int) == 47) = false := by rw [beq_eq_false_iff_ne]; omega
              have hso := HSO.out h47
              rw [hsp] at hso
              clear h47 hsp hso ho5
              go_wp2_with fail
              refine (K10.out w5).mono ?_
              rintro e w6 ⟨rfl, hb6⟩
              have HB6 := hid (HB5.out.next hb6)
              clear hb6
              go_wp2_with fail
              go_ret
              exact ⟨rfl, HB6.out.below⟩
          | some l =>
            rw [hsp] at ho5
            obtain ⟨a5, c5, rfl, hc5, ht5⟩ := ho5
            by_cases h47 : c = 47
            · exact absurd h47 hc3
            · have g47 : ((c : Int) == 47) = false := by rw [beq_eq_false_iff_ne]; omega
              have hso := HSO.out h47
              rw [hsp] at hso
              simp at hso
        have p5 : (S.toList == [46]) = false := by rw [HTL.out]; exact beq_eq_false_iff_ne.2 DD5
        by_cases DD6 : s = [46, 46]
        · have g : (S.toList == [46, 46]) = true := by rw [HTL.out, DD6]; rfl
          have hF : nameB s = false := by cases h : nameB s with | false => rfl | true => exact absurd (HNM.out.1 h) (fun e => e.2.2.2 DD6)
          rw [hF] at k10
          have HSO : Hid (c ≠ 47 → (splitP (47 :: s)).isSome = false) := hid (fun h => by rw [HSO1.out h, hF])
          have K10 := hid k10
          have hcv0 := CV.out w4 (Below.refl _ _)
          clear k10 hF DD6
          go_wp2_with fail
          clear hcv0
          have hcv := CV.out w4 (Below.refl _ _)
          go_wp2_with fail
          refine (K8.out _ HB4.out.mx).mono ?_
          rintro e w5 ⟨ho5, hb5⟩
          have HB5 := hid (HB4.out.next hb5)
          have hcv5 := CV.out w5 hb5
          clear hb5 hcv
          cases hsp : splitP (47 :: s) with
          | none =>
            rw [hsp] at ho5
            have he : e = _ := ho5
            subst he
            by_cases h47 : c = 47
            · exact absurd h47 hc3
            · have g47 : ((c : Int) == 47) = false := by rw [beq_eq_false_iff_ne]; omega
              have hso := HSO.out h47
              rw [hsp] at hso
              clear h47 hsp hso ho5
              go_wp2_with fail
              refine (K10.out w5).mono ?_
              rintro e w6 ⟨rfl, hb6⟩
              have HB6 := hid (HB5.out.next hb6)
              clear hb6
              go_wp2_with fail
              go_ret
              exact ⟨rfl, HB6.out.below⟩
          | some l =>
            rw [hsp] at ho5
            obtain ⟨a5, c5, rfl, hc5, ht5⟩ := ho5
            by_cases h47 : c = 47
            · exact absurd h47 hc3
            · have g47 : ((c : Int) == 47) = false := by rw [beq_eq_false_iff_ne]; omega
              have hso := HSO.out h47
              rw [hsp] at hso
              simp at hso
        have p6 : (S.toList == [46, 46]) = false := by rw [HTL.out]; exact beq_eq_false_iff_ne.2 DD6
        have hF : nameB s = true := HNM.out.2 ⟨by omega, by rw [HOK.out]; simp; omega, DD5, DD6⟩
        rw [hF] at k10
        have HSO : Hid (c ≠ 47 → (splitP (47 :: s)).isSome = true) := hid (fun h => by rw [HSO1.out h, hF])
        have K10 := hid k10
        have hcv0 := CV.out w4 (Below.refl _ _)
        clear k10 hF
        go_wp2_with fail
        clear hcv0
        have hcv := CV.out w4 (Below.refl _ _)
        go_wp2_with fail
        refine (K8.out _ HB4.out.mx).mono ?_
        rintro e w5 ⟨ho5, hb5⟩
        have HB5 := hid (HB4.out.next hb5)
        have hcv5 := CV.out w5 hb5
        clear hb5 hcv
        cases hsp : splitP (47 :: s) with
        | none =>
          rw [hsp] at ho5
          have he : e = _ := ho5
          subst he
          by_cases h47 : c = 47
          · exact absurd h47 hc3
          · have g47 : ((c : Int) == 47) = false := by rw [beq_eq_false_iff_ne]; omega
            have hso := HSO.out h47
            rw [hsp] at hso
            simp at hso
        | some l =>
          rw [hsp] at ho5
          obtain ⟨a5, c5, rfl, hc5, ht5⟩ := ho5
          by_cases h47 : c = 47
          · exact absurd h47 hc3
          · have g47 : ((c : Int) == 47) = false := by rw [beq_eq_false_iff_ne]; omega
            have hso := HSO.out h47
            rw [hsp] at hso
            clear h47 hsp hso hc5 ht5
            go_wp2_with fail
            refine (K10.out w5).mono ?_
            rintro e w6 ⟨rfl, hb6⟩
            have HB6 := hid (HB5.out.next hb6)
            clear hb6
            go_wp2_with fail
            go_ret
            exact ⟨rfl, HB6.out.below⟩
theorem pathSigns_walk (w : World) (n : Int) (hn : (Lit.int .u8 n).wf = true) (a : Int) (ha : (Lit.int .u8 a).wf = true) (c : Int) (hc : (Lit.int .u8 c).wf = true) (hm : Max w) : Calls Tryd.prog 6 #[.int .u8 n, .int .u8 a, .int .u8 c] w fun e w' => e = .returned (.bool true) ∧ Below w.heap.size w w' := by
  have bn := bounds_u8 hn
  have ba := bounds_u8 ha
  have bc := bounds_u8 hc
  obtain ⟨N, rfl⟩ : ∃ N : Nat, n = N := ⟨n.toNat, by omega⟩
  obtain ⟨A, rfl⟩ : ∃ A : Nat, a = A := ⟨a.toNat, by omega⟩
  obtain ⟨C, rfl⟩ : ∃ C : UInt8, c = (C.toNat : Int) := ⟨UInt8.ofNat c.toNat, by
    have : (UInt8.ofNat c.toNat).toNat = c.toNat := by simp; omega
    omega⟩
  exact signs_walk w N A C (by omega) (by omega) hm
end Go.Proofs.YtllgdfdiigjecaaDoor
