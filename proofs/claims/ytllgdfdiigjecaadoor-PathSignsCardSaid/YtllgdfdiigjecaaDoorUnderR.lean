/- The document's Under. No condition. -/
import Derived.Test.YtllgdfdiigjecaaDoorUnder
namespace Go.Proofs.YtllgdfdiigjecaaDoor
open Go.RowKit
set_option maxRecDepth 4000
theorem runder_any (w : World) (a b : Str) : Calls Tryd.prog 13 #[.string (mk a), .string (mk b)] w fun e w' => e = .returned (.bool (underP a b)) ∧ Below w.heap.size w w' := by
  have h1 := rsplit_any w a
  have h2 := fun w1 => rsplit_any w1 b
  obtain ⟨A, hA⟩ : ∃ A, mk a = A := ⟨_, rfl⟩
  obtain ⟨B, hB⟩ : ∃ B, mk b = B := ⟨_, rfl⟩
  rw [hA] at h1 ⊢
  rw [hB] at h2 ⊢
  obtain ⟨u, hu⟩ : ∃ u, underP a b = u := ⟨_, rfl⟩
  rw [hu]
  have HU := hid hu
  have H1 := hid h1
  have H2 := hid h2
  clear h1 h2 hA hB hu
  go_enter Tryd.func13, Tryd.ntmps13
  go_wp2_with fail
  refine H1.out.mono ?_
  rintro e w1 ⟨ho1, hb1⟩
  have HB1 := hid hb1
  have k2 := hid (H2.out w1)
  cases hsa : splitP a with
  | none =>
    rw [hsa] at ho1
    have he : e = _ := ho1
    subst he
    have HSA := hid hsa
    clear hb1 hsa ho1
    go_wp2_with fail
    refine k2.out.mono ?_
    rintro e w2 ⟨ho2, hb2⟩
    have HB2 := hid (HB1.out.trans (hb2.mono HB1.out.size))
    have hu : u = false := by rw [← HU.out]; exact underP_none1 HSA.out
    cases hsb : splitP b with
    | none =>
      rw [hsb] at ho2
      have he : e = _ := ho2
      subst he
      clear hb2 hsb ho2
      go_wp2_with fail
      go_ret
      exact ⟨by rw [hu]; rfl, HB2.out⟩
    | some y =>
      rw [hsb] at ho2
      obtain ⟨a2, c2, rfl, hc2, ht2⟩ := ho2
      clear hb2 hsb hc2 ht2
      go_wp2_with fail
      go_ret
      exact ⟨by rw [hu]; rfl, HB2.out⟩
  | some x =>
    rw [hsa] at ho1
    obtain ⟨a1, c1, rfl, hc1, ht1⟩ := ho1
    have HSA := hid hsa
    have HT1 := hid ht1
    have hx8 : x.length ≤ 8 := (splitP_some hsa).2.1
    obtain ⟨n, hn⟩ : ∃ n, x.length = n := ⟨_, rfl⟩
    have HN := hid hn
    rw [hn] at hc1 hx8 ⊢
    clear hb1 hsa ht1 hn
    go_wp2_with fail
    refine k2.out.mono ?_
    rintro e w2 ⟨ho2, hb2⟩
    have HB2 := hid (HB1.out.trans (hb2.mono HB1.out.size))
    have HT1b := hid (HT1.out.below hb2)
    cases hsb : splitP b with
    | none =>
      rw [hsb] at ho2
      have he : e = _ := ho2
      subst he
      have hu : u = false := by rw [← HU.out]; exact underP_none2 hsb
      clear hb2 hsb ho2
      go_wp2_with fail
      go_ret
      exact ⟨by rw [hu]; rfl, HB2.out⟩
    | some y =>
      rw [hsb] at ho2
      obtain ⟨a2, c2, rfl, hc2, ht2⟩ := ho2
      have hu := underP_some HSA.out hsb
      rw [HU.out, HN.out] at hu
      have hy8 : y.length ≤ 8 := (splitP_some hsb).2.1
      obtain ⟨m, hm⟩ : ∃ m, y.length = m := ⟨_, rfl⟩
      rw [hm] at hu hc2 hy8 ⊢
      have HMY := hid hm
      have HT2 := hid ht2
      have HUU := hid hu
      clear hb2 hsb ht2 hm hu
      by_cases hle : n ≤ m
      · have g1 : (n : Int) ≤ (m : Int) := by omega
        have hu : u = false := by rw [HUU.out]; simp; omega
        clear hle
        go_wp2_with fail
        go_ret
        exact ⟨by rw [hu]; rfl, HB2.out⟩
      · have g1 : ¬ (n : Int) ≤ (m : Int) := by omega
        obtain ⟨b1, o1, rfl, hb1, hcell⟩ := HT1b.out.at_ (by intro e; have := HN.out; rw [e] at this; simp at this; omega)
        have hu : u = (x.take m == y) := by
          rw [HUU.out]
          have : decide (m < n) = true := decide_eq_true (by omega)
          rw [this, Bool.true_and]
        have HUX := hid hu
        have HC := hid hcell
        have HNM : Hid (m ≤ x.length) := by show m ≤ x.length; have := HN.out; omega
        clear hcell hb1 hu hle
        obtain ⟨w3, hw3⟩ : ∃ w3, w2 = w3 := ⟨_, rfl⟩
        subst hw3
        go_wp2_with fail
        go_loopg [9] m (fun k v wr => ∃ i q : Nat, i ≤ m ∧ k = m - i ∧ v = .int .i64 i ∧ wr = w2.drewN q ∧ Hid (∀ j, j < i → x.getD j [] = y.getD j []))
        case atStart => exact ⟨0, 0, by omega, by omega, rfl, rfl, hid (fun j hj => by omega)⟩
        case round =>
          obtain ⟨i, q, hi, rfl, rfl, hwr, HQ⟩ := hrel
          by_cases hlt : i < m
          · obtain ⟨b2, o2, rfl, _, hcell2⟩ := HT2.out.at_ (by intro e; have := HMY.out; rw [e] at this; simp at this; omega)
            have hx1 := HC.out i (by have := HNM.out; omega)
            have hy1 := hcell2 i (by have := HMY.out; omega)
            obtain ⟨p1, hp1⟩ : ∃ p1, x.getD i [] = p1 := ⟨_, rfl⟩
            obtain ⟨p2, hp2⟩ : ∃ p2, y.getD i [] = p2 := ⟨_, rfl⟩
            rw [hp1] at hx1
            rw [hp2] at hy1
            have hP1 : (mk p1).toList = p1 := mk_toList p1
            have hP2 : (mk p2).toList = p2 := mk_toList p2
            have HP1 := hid hp1
            have HP2 := hid hp2
            obtain ⟨M1, hM1⟩ : ∃ M1, mk p1 = M1 := ⟨_, rfl⟩
            obtain ⟨M2, hM2⟩ : ∃ M2, mk p2 = M2 := ⟨_, rfl⟩
            rw [hM1] at hx1 hP1
            rw [hM2] at hy1 hP2
            have hX1 : wr.cell? ⟨b1, o1 + i, none⟩ = some (.string M1) := by rw [hwr]; exact hx1
            have hY1 : wr.cell? ⟨b2, o2 + i, none⟩ = some (.string M2) := by rw [hwr]; exact hy1
            have HW := hid hwr
            have gim : (i : Int) < (m : Int) := by omega
            have gin : (i : Int) < (n : Int) := by have := HNM.out; have := HN.out; omega
            cases hpp : (p1 == p2) with
            | true =>
              have hE : (M1.toList == M2.toList) = true := by rw [hP1, hP2]; exact hpp
              have HPP := hid hpp
              clear hcell2 hp1 hp2 hM1 hM2 hx1 hy1 hP1 hP2 hwr hpp
              go_wp2_with fail
              go_quiet (fail)
              go_wp2_with fail
              go_roundg (m - (i + 1))
              case measure => omega
              case rel =>
                refine ⟨i + 1, q + nq, by omega, by omega, by go_num, by rw [HW.out, World.drewN_drewN], hid (fun j hj => ?_)⟩
                by_cases e : j = i
                · subst e
                  rw [HP1.out, HP2.out]
                  exact beq_iff_eq.1 HPP.out
                · exact HQ.out j (by omega)
            | false =>
              have hE : (M1.toList == M2.toList) = false := by rw [hP1, hP2]; exact hpp
              have HPP := hid hpp
              clear hcell2 hp1 hp2 hM1 hM2 hx1 hy1 hP1 hP2 hwr hpp
              go_wp2_with fail
              go_quiet (fail)
              go_wp2_with fail
              go_ret
              have hu : u = false := by
                rw [HUX.out, beq_eq_false_iff_ne]
                intro e
                have hjx : i < x.length := by have := HNM.out; omega
                have hjy : i < y.length := by rw [HMY.out]; exact hlt
                have e2 := congrArg (fun l : List Str => l.getD i []) e
                simp only [List.getD_eq_getElem?_getD, List.getElem?_take, if_pos hlt] at e2
                rw [← List.getD_eq_getElem?_getD, ← List.getD_eq_getElem?_getD, HP1.out, HP2.out] at e2
                exact (beq_eq_false_iff_ne.1 HPP.out) e2
              rw [HW.out]
              exact ⟨by rw [hu]; rfl, ⟨HB2.out.os, HB2.out.tape, HB2.out.output, HB2.out.size, HB2.out.block⟩⟩
          · have him : i = m := by omega
            subst him
            go_wp2_with fail
            go_ret
            subst hwr
            have hu : u = true := by
              rw [HUX.out, beq_iff_eq]
              apply List.ext_getElem
              · rw [List.length_take, HMY.out]; have := HNM.out; omega
              · intro j h1 h2
                have := HQ.out j (by rw [HMY.out] at h2; exact h2)
                have hjx : j < x.length := by have := HNM.out; rw [HMY.out] at h2; omega
                rw [List.getD_eq_getElem?_getD, List.getD_eq_getElem?_getD, List.getElem?_eq_getElem hjx, List.getElem?_eq_getElem h2] at this
                simpa using this
            exact ⟨by rw [hu]; rfl, ⟨HB2.out.os, HB2.out.tape, HB2.out.output, HB2.out.size, HB2.out.block⟩⟩
end Go.Proofs.YtllgdfdiigjecaaDoor
