/- PathSplit, as it is walked: any two texts: whether they are names, their parts, joined again, one under the other. Condition: internal/bytealg.MaxLen holds an integer. -/
import Derived.Test.YtllgdfdiigjecaaDoorAwake
namespace Go.Proofs.YtllgdfdiigjecaaDoor
open Go.RowKit
set_option maxRecDepth 4000
set_option linter.unusedVariables false
set_option maxHeartbeats 400000 in
theorem pathSplit_walk (w : World) (a b : Str) (hm : Max w) : Calls Tryd.prog 3 #[.string (mk a), .string (mk b)] w fun e w' => e = .returned (.bool true) ∧ Below w.heap.size w w' := by
  obtain ⟨na, hna⟩ : ∃ n, a.length = n := ⟨_, rfl⟩
  obtain ⟨nb, hnb⟩ : ∃ n, b.length = n := ⟨_, rfl⟩
  have hsa : (mk a).size = na := by rw [mk_size, hna]
  have hsb : (mk b).size = nb := by rw [mk_size, hnb]
  have htl : (mk a).toList = a := mk_toList a
  have k8 := fun w1 (h : Max w1) => split_any w1 a h
  have k9 := fun w1 => rsplit_any w1 a
  have k10 := fun w1 => name_any w1 a
  have k11 := fun w1 => rname_any w1 a
  have k12 := fun w1 (h : Max w1) => under_any w1 a b h
  have k13 := fun w1 => runder_any w1 a b
  obtain ⟨A, hA⟩ : ∃ A, mk a = A := ⟨_, rfl⟩
  obtain ⟨B, hB⟩ : ∃ B, mk b = B := ⟨_, rfl⟩
  obtain ⟨u, hu⟩ : ∃ u, underP a b = u := ⟨_, rfl⟩
  obtain ⟨nm, hnm⟩ : ∃ u, nameB a = u := ⟨_, rfl⟩
  rw [hA] at k8 k9 k10 k11 k12 k13 hsa htl ⊢
  rw [hB] at k12 k13 hsb ⊢
  rw [hu] at k12 k13
  rw [hnm] at k10 k11
  have HM := hid hm
  have K8 := hid k8
  have K9 := hid k9
  have K10 := hid k10
  have K11 := hid k11
  have K12 := hid k12
  have K13 := hid k13
  have HTL := hid htl
  have HAA := hid hA
  clear k8 k9 k10 k11 k12 k13 hA hB hu hnm hna hnb hm htl
  by_cases h1 : 1000 < na
  · have g1 : 1000 < (na : Int) := by omega
    clear h1
    go_enter Tryd.func3, Tryd.ntmps3
    go_wp2_with fail
    refine (awake_any w HM.out).mono ?_
    rintro e w1 ⟨rfl, hb1⟩
    have HB1 := hid hb1
    clear hb1
    go_wp2_with fail
    go_ret
    exact ⟨rfl, HB1.out⟩
  have g1 : ¬ 1000 < (na : Int) := by omega
  by_cases h2 : 1000 < nb
  · have g2 : 1000 < (nb : Int) := by omega
    clear h1 h2
    go_enter Tryd.func3, Tryd.ntmps3
    go_wp2_with fail
    refine (awake_any w HM.out).mono ?_
    rintro e w1 ⟨rfl, hb1⟩
    have HB1 := hid hb1
    clear hb1
    go_wp2_with fail
    go_ret
    exact ⟨rfl, HB1.out⟩
  have g2 : ¬ 1000 < (nb : Int) := by omega
  clear h1 h2
  go_enter Tryd.func3, Tryd.ntmps3
  go_wp2_with fail
  refine (awake_any w HM.out).mono ?_
  rintro e w1 ⟨rfl, hb1⟩
  have HB1 := hid hb1
  have HM1 := hid (HM.out.below hb1)
  clear hb1
  go_wp2_with fail
  refine (K8.out w1 HM1.out).mono ?_
  rintro e w2 ⟨ho2, hb2⟩
  have HB2 := hid (HB1.out.trans (hb2.mono HB1.out.size))
  have HM2 := hid (HM1.out.below hb2)
  clear hb2
  cases hsp : splitP a with
  | none =>
    rw [hsp] at ho2
    have he : e = _ := ho2
    subst he
    have HSP := hid hsp
    clear ho2 hsp
    go_wp2_with fail
    refine (K9.out w2).mono ?_
    rintro e w3 ⟨ho3, hb3⟩
    have HB3 := hid (HB2.out.trans (hb3.mono HB2.out.size))
    have HM3 := hid (HM2.out.below hb3)
    rw [HSP.out] at ho3
    have he : e = _ := ho3
    subst he
    clear ho3 hb3
    go_wp2_with fail
    refine (K10.out w3).mono ?_
    rintro e w4 ⟨rfl, hb4⟩
    have HB4 := hid (HB3.out.trans (hb4.mono HB3.out.size))
    have HM4 := hid (HM3.out.below hb4)
    clear hb4
    go_wp2_with fail
    refine (K11.out w4).mono ?_
    rintro e w5 ⟨rfl, rfl⟩
    go_wp2_with fail
    refine (K12.out w5 HM4.out).mono ?_
    rintro e w6 ⟨rfl, hb6⟩
    have HB6 := hid (HB4.out.trans (hb6.mono HB4.out.size))
    clear hb6
    go_wp2_with fail
    refine (K13.out w6).mono ?_
    rintro e w7 ⟨rfl, hb7⟩
    have HB7 := hid (HB6.out.trans (hb7.mono HB6.out.size))
    clear hb7
    go_wp2_with fail
    go_loopg [9] 0 (fun k v wr => v = .int .i64 0 ∧ wr = w7)
    case atStart => exact ⟨rfl, rfl⟩
    case round =>
      obtain ⟨rfl, rfl⟩ := hrel
      go_wp2_with fail
      go_ret
      exact ⟨rfl, HB7.out⟩
  | some l =>
    rw [hsp] at ho2
    obtain ⟨a1, c1, rfl, hc1, ht1⟩ := ho2
    obtain ⟨hjp, hl8, hnl, _⟩ := splitP_some hsp
    have HSP := hid hsp
    have HJP := hid hjp
    have HNL := hid hnl
    obtain ⟨n, hn⟩ : ∃ n, l.length = n := ⟨_, rfl⟩
    rw [hn] at hc1 hl8 ⊢
    have HN := hid hn
    have HT1 := hid ht1
    clear hsp hjp hnl hn ht1
    go_wp2_with fail
    refine (K9.out w2).mono ?_
    rintro e w3 ⟨ho3, hb3⟩
    have HB3 := hid (HB2.out.trans (hb3.mono HB2.out.size))
    have HM3 := hid (HM2.out.below hb3)
    have HT1b := hid (HT1.out.below hb3)
    rw [HSP.out] at ho3
    obtain ⟨a2, c2, rfl, hc2, ht2⟩ := ho3
    have hn2 := HN.out
    rw [hn2] at hc2 ⊢
    have HT2 := hid ht2
    clear hb3 ht2 hn2
    go_wp2_with fail
    refine (K10.out w3).mono ?_
    rintro e w4 ⟨rfl, hb4⟩
    have HB4 := hid (HB3.out.trans (hb4.mono HB3.out.size))
    have HM4 := hid (HM3.out.below hb4)
    have HT1c := hid (HT1b.out.below hb4)
    have HT2c := hid (HT2.out.below hb4)
    clear hb4
    go_wp2_with fail
    refine (K11.out w4).mono ?_
    rintro e w5 ⟨rfl, rfl⟩
    go_wp2_with fail
    refine (K12.out w5 HM4.out).mono ?_
    rintro e w6 ⟨rfl, hb6⟩
    have HB6 := hid (HB4.out.trans (hb6.mono HB4.out.size))
    have HT1d := hid (HT1c.out.below hb6)
    have HT2d := hid (HT2c.out.below hb6)
    clear hb6
    go_wp2_with fail
    refine (K13.out w6).mono ?_
    rintro e w7 ⟨rfl, hb7⟩
    have HB7 := hid (HB6.out.trans (hb7.mono HB6.out.size))
    have HT1e := hid (HT1d.out.below hb7)
    have HT2e := hid (HT2d.out.below hb7)
    clear hb7
    go_wp2_with fail
    go_loopg [9] n (fun k v wr => ∃ i : Nat, i ≤ n ∧ k = n - i ∧ v = .int .i64 i ∧ Hid (Below w7.heap.size w7 wr))
    case atStart => exact ⟨0, by omega, by omega, rfl, hid (Below.refl _ _)⟩
    case round =>
      obtain ⟨i, hi, rfl, rfl, HBW⟩ := hrel
      by_cases hlt : i < n
      · have hne : l ≠ [] := by intro e; have := HN.out; rw [e] at this; simp at this; omega
        obtain ⟨b1, o1, rfl, hb1, hcell1⟩ := (HT1e.out.below HBW.out).at_ hne
        obtain ⟨b2, o2, rfl, hb2, hcell2⟩ := (HT2e.out.below HBW.out).at_ hne
        have hil : i < l.length := by have := HN.out; omega
        have hx1 := hcell1 i hil
        have hy1 := hcell2 i hil
        obtain ⟨x, hx⟩ : ∃ x, l.getD i [] = x := ⟨_, rfl⟩
        have hnx : nameB x = true := by
          rw [← hx, List.getD_eq_getElem?_getD, List.getElem?_eq_getElem hil]
          exact HNL.out _ (List.getElem_mem hil)
        rw [hx] at hx1 hy1
        have k14 := fun w1 => name_any w1 x
        rw [hnx] at k14
        obtain ⟨X, hX⟩ : ∃ X, mk x = X := ⟨_, rfl⟩
        rw [hX] at hx1 hy1 k14
        have K14 := hid k14
        have gi : (i : Int) < (n : Int) := by omega
        have hX1 : ∀ W, Below wr.heap.size wr W → W.cell? ⟨b1, o1 + i, none⟩ = some (.string X) := fun W hW => (hW.cell (p := ⟨b1, o1 + i, none⟩) hb1).trans hx1
        have hY1 : ∀ W, Below wr.heap.size wr W → W.cell? ⟨b2, o2 + i, none⟩ = some (.string X) := fun W hW => (hW.cell (p := ⟨b2, o2 + i, none⟩) hb2).trans hy1
        have hz0 : Below wr.heap.size wr wr := Below.refl _ _
        have hz1 := hz0.drew
        clear hcell1 hcell2 hx hnx hX k14 hne hil hx1 hy1 hb1 hb2
        go_wp2_with fail
        go_region_held (fun W => Below wr.heap.size wr W) (first | assumption) (first | (go_at_call 10; refine (K14.out _).mono ?_; rintro e w8 ⟨rfl, hb8⟩; have hz2 := hz1.trans (hb8.mono hz1.size)))
        go_wp2_with fail
        go_roundg (n - (i + 1))
        case measure => omega
        case rel => exact ⟨i + 1, by omega, by omega, by go_num, hid (HBW.out.trans (hz2.mono HBW.out.size))⟩
      · have hin : i = n := by omega
        subst hin
        have hjl : (joinF l).length ≤ 281474976710656 := by
          have h1 := HJP.out
          unfold joinP at h1
          have h2 := HN.out
          by_cases e : l = []
          · subst e; simp [joinF]
          · rw [if_neg e] at h1
            have h3 := joinF_len l
            have h4 := (splitP_some HSP.out).2.2.2
            rw [h1]; omega
        have k14 := join_any wr a1 l i c1 HN.out hc1 (HT1e.out.below HBW.out) (by omega) hjl
        rw [HJP.out, HAA.out] at k14
        have K14 := hid k14
        clear k14 hjl
        go_wp2_with fail
        refine K14.out.mono ?_
        rintro e w8 ⟨rfl, hb8⟩
        have HB8 := hid ((HB7.out.trans (HBW.out.mono HB7.out.size)).trans (hb8.mono (HB7.out.trans (HBW.out.mono HB7.out.size)).size))
        clear hb8
        go_wp2_with fail
        go_ret
        exact ⟨rfl, HB8.out⟩
end Go.Proofs.YtllgdfdiigjecaaDoor
