/- PathUnder, as it is walked: of three in a row the first is under the last; nothing is under itself; all are under the root. Condition: internal/bytealg.MaxLen holds an integer. -/
import Derived.Test.YtllgdfdiigjecaaDoorAwake
namespace Go.Proofs.YtllgdfdiigjecaaDoor
open Go.RowKit
set_option maxRecDepth 4000
set_option linter.unusedVariables false
/-- What the world keeps while the law goes on. -/
structure Goes (w w1 : World) : Prop where
  below : Below w.heap.size w w1
  mx : Max w1
theorem Goes.next {w w1 w2 : World} (h : Goes w w1) (hb : Below w1.heap.size w1 w2) : Goes w w2 := ⟨h.below.trans (hb.mono h.below.size), h.mx.below hb⟩
theorem Goes.refl {w : World} (h : Max w) : Goes w w := ⟨Below.refl _ _, h⟩
set_option maxHeartbeats 400000 in
theorem pathUnder_walk (w : World) (a b c : Str) (hm : Max w) : Calls Tryd.prog 4 #[.string (mk a), .string (mk b), .string (mk c)] w fun e w' => e = .returned (.bool true) ∧ Below w.heap.size w w' := by
  obtain ⟨na, hna⟩ : ∃ n, a.length = n := ⟨_, rfl⟩
  obtain ⟨nb, hnb⟩ : ∃ n, b.length = n := ⟨_, rfl⟩
  obtain ⟨nc, hnc⟩ : ∃ n, c.length = n := ⟨_, rfl⟩
  have hsa : (mk a).size = na := by rw [mk_size, hna]
  have hsb : (mk b).size = nb := by rw [mk_size, hnb]
  have hsc : (mk c).size = nc := by rw [mk_size, hnc]
  have k8 := fun w1 (h : Max w1) => split_any w1 a h
  have kaa := fun w1 (h : Max w1) => under_any w1 a a h
  have kab := fun w1 (h : Max w1) => under_any w1 a b h
  have kba := fun w1 (h : Max w1) => under_any w1 b a h
  have kbc := fun w1 (h : Max w1) => under_any w1 b c h
  have kac := fun w1 (h : Max w1) => under_any w1 a c h
  have kr : ∀ w1, Max w1 → Calls Tryd.prog 12 #[.string (mk a), .string ⟨#[47]⟩] w1 fun e w' => e = .returned (.bool (underP a [47])) ∧ Below w1.heap.size w1 w' := fun w1 (h : Max w1) => under_any w1 a [47] h
  rw [underP_self] at kaa
  obtain ⟨A, hA⟩ : ∃ A, mk a = A := ⟨_, rfl⟩
  obtain ⟨B, hB⟩ : ∃ B, mk b = B := ⟨_, rfl⟩
  obtain ⟨C, hC⟩ : ∃ C, mk c = C := ⟨_, rfl⟩
  rw [hA] at k8 kaa kab kba kac kr hsa ⊢
  rw [hB] at kab kba kbc hsb ⊢
  rw [hC] at kbc kac hsc ⊢
  have HM := hid (Goes.refl hm)
  have K8 := hid k8
  have KAA := hid kaa
  have KR := hid kr
  clear k8 kaa kr hA hB hC hna hnb hnc hm

  by_cases h1 : 500 < na
  · have g1 : 500 < (na : Int) := by omega
    clear h1
    clear kab kba kbc kac
    go_enter Tryd.func4, Tryd.ntmps4
    go_wp2_with fail
    refine (awake_any w HM.out.mx).mono ?_
    rintro e w1 ⟨rfl, hb1⟩
    have HB1 := hid hb1
    clear hb1
    go_wp2_with fail
    go_ret
    exact ⟨rfl, HB1.out⟩
  have g1 : ¬ 500 < (na : Int) := by omega
  by_cases h2 : 500 < nb
  · have g2 : 500 < (nb : Int) := by omega
    clear h1 h2
    clear kab kba kbc kac
    go_enter Tryd.func4, Tryd.ntmps4
    go_wp2_with fail
    refine (awake_any w HM.out.mx).mono ?_
    rintro e w1 ⟨rfl, hb1⟩
    have HB1 := hid hb1
    clear hb1
    go_wp2_with fail
    go_ret
    exact ⟨rfl, HB1.out⟩
  have g2 : ¬ 500 < (nb : Int) := by omega
  by_cases h3 : 500 < nc
  · have g3 : 500 < (nc : Int) := by omega
    clear h1 h2 h3
    clear kab kba kbc kac
    go_enter Tryd.func4, Tryd.ntmps4
    go_wp2_with fail
    refine (awake_any w HM.out.mx).mono ?_
    rintro e w1 ⟨rfl, hb1⟩
    have HB1 := hid hb1
    clear hb1
    go_wp2_with fail
    go_ret
    exact ⟨rfl, HB1.out⟩
  have g3 : ¬ 500 < (nc : Int) := by omega
  clear h1 h2 h3
  cases hab : underP a b with
  | false =>
    rw [hab] at kab
    have KAB := hid kab
    clear kab kba kbc kac hab
    go_enter Tryd.func4, Tryd.ntmps4
    go_wp2_with fail
    refine (awake_any w HM.out.mx).mono ?_
    rintro e w1 ⟨rfl, hb1⟩
    have HG1 := hid (HM.out.next hb1)
    clear hb1
    go_wp2_with fail
    refine (KAA.out _ HG1.out.mx).mono ?_
    rintro e w2 ⟨rfl, hb2⟩
    have HG2 := hid (HG1.out.next hb2)
    clear hb2
    go_wp2_with fail
    refine (KAB.out _ HG2.out.mx).mono ?_
    rintro e w3 ⟨rfl, hb3⟩
    have HG3 := hid (HG2.out.next hb3)
    clear hb3
    go_wp2_with fail
    refine (KAB.out _ HG3.out.mx).mono ?_
    rintro e w4 ⟨rfl, hb4⟩
    have HG4 := hid (HG3.out.next hb4)
    clear hb4
    go_wp2_with fail
    refine (K8.out _ HG4.out.mx).mono ?_
    rintro e w5 ⟨ho, hb5⟩
    have HG5 := hid (HG4.out.next hb5)
    clear hb5
    cases hsp : splitP a with
    | none =>
      rw [hsp] at ho
      have he : e = _ := ho
      subst he
      have hr : underP a [47] = false := by rw [underP_root, hsp]
      rw [hr] at KR
      clear ho hsp hr
      go_wp2_with fail
      refine (KR.out _ HG5.out.mx).mono ?_
      rintro e w6 ⟨rfl, hb6⟩
      have HG6 := hid (HG5.out.next hb6)
      clear hb6
      go_wp2_with fail
      go_ret
      exact ⟨rfl, HG6.out.below⟩
    | some l =>
      rw [hsp] at ho
      obtain ⟨a1, c1, rfl, hc1, ht1⟩ := ho
      have hr : underP a [47] = decide (0 < l.length) := by rw [underP_root, hsp]
      rw [hr] at KR
      obtain ⟨n, hn⟩ : ∃ n, l.length = n := ⟨_, rfl⟩
      rw [hn] at KR ⊢
      clear hsp hr hc1 ht1 hn
      by_cases hp : 0 < n
      · have g5 : 0 < (n : Int) := by omega
        rw [decide_eq_true hp] at KR
        go_wp2_with fail
        refine (KR.out _ HG5.out.mx).mono ?_
        rintro e w6 ⟨rfl, hb6⟩
        have HG6 := hid (HG5.out.next hb6)
        clear hb6
        go_wp2_with fail
        go_ret
        exact ⟨rfl, HG6.out.below⟩
      · have g5 : ¬ 0 < (n : Int) := by omega
        rw [decide_eq_false hp] at KR
        go_wp2_with fail
        refine (KR.out _ HG5.out.mx).mono ?_
        rintro e w6 ⟨rfl, hb6⟩
        have HG6 := hid (HG5.out.next hb6)
        clear hb6
        go_wp2_with fail
        go_ret
        exact ⟨rfl, HG6.out.below⟩
  | true =>
    rw [hab] at kab
    rw [underP_anti hab] at kba
    have KAB := hid kab
    have KBA := hid kba
    cases hbc : underP b c with
    | false =>
      rw [hbc] at kbc
      have KBC := hid kbc
      clear kab kba kbc kac hab hbc
      go_enter Tryd.func4, Tryd.ntmps4
      go_wp2_with fail
      refine (awake_any w HM.out.mx).mono ?_
      rintro e w1 ⟨rfl, hb1⟩
      have HG1 := hid (HM.out.next hb1)
      clear hb1
      go_wp2_with fail
      refine (KAA.out _ HG1.out.mx).mono ?_
      rintro e w2 ⟨rfl, hb2⟩
      have HG2 := hid (HG1.out.next hb2)
      clear hb2
      go_wp2_with fail
      refine (KAB.out _ HG2.out.mx).mono ?_
      rintro e w3 ⟨rfl, hb3⟩
      have HG3 := hid (HG2.out.next hb3)
      clear hb3
      go_wp2_with fail
      refine (KBA.out _ HG3.out.mx).mono ?_
      rintro e w4 ⟨rfl, hb4⟩
      have HG4 := hid (HG3.out.next hb4)
      clear hb4
      go_wp2_with fail
      refine (KAB.out _ HG4.out.mx).mono ?_
      rintro e w5 ⟨rfl, hb5⟩
      have HG5 := hid (HG4.out.next hb5)
      clear hb5
      go_wp2_with fail
      refine (KBC.out _ HG5.out.mx).mono ?_
      rintro e w6 ⟨rfl, hb6⟩
      have HG6 := hid (HG5.out.next hb6)
      clear hb6
      go_wp2_with fail
      refine (K8.out _ HG6.out.mx).mono ?_
      rintro e w7 ⟨ho, hb7⟩
      have HG7 := hid (HG6.out.next hb7)
      clear hb7
      cases hsp : splitP a with
      | none =>
        rw [hsp] at ho
        have he : e = _ := ho
        subst he
        have hr : underP a [47] = false := by rw [underP_root, hsp]
        rw [hr] at KR
        clear ho hsp hr
        go_wp2_with fail
        refine (KR.out _ HG7.out.mx).mono ?_
        rintro e w8 ⟨rfl, hb8⟩
        have HG8 := hid (HG7.out.next hb8)
        clear hb8
        go_wp2_with fail
        go_ret
        exact ⟨rfl, HG8.out.below⟩
      | some l =>
        rw [hsp] at ho
        obtain ⟨a1, c1, rfl, hc1, ht1⟩ := ho
        have hr : underP a [47] = decide (0 < l.length) := by rw [underP_root, hsp]
        rw [hr] at KR
        obtain ⟨n, hn⟩ : ∃ n, l.length = n := ⟨_, rfl⟩
        rw [hn] at KR ⊢
        clear hsp hr hc1 ht1 hn
        by_cases hp : 0 < n
        · have g5 : 0 < (n : Int) := by omega
          rw [decide_eq_true hp] at KR
          go_wp2_with fail
          refine (KR.out _ HG7.out.mx).mono ?_
          rintro e w8 ⟨rfl, hb8⟩
          have HG8 := hid (HG7.out.next hb8)
          clear hb8
          go_wp2_with fail
          go_ret
          exact ⟨rfl, HG8.out.below⟩
        · have g5 : ¬ 0 < (n : Int) := by omega
          rw [decide_eq_false hp] at KR
          go_wp2_with fail
          refine (KR.out _ HG7.out.mx).mono ?_
          rintro e w8 ⟨rfl, hb8⟩
          have HG8 := hid (HG7.out.next hb8)
          clear hb8
          go_wp2_with fail
          go_ret
          exact ⟨rfl, HG8.out.below⟩
    | true =>
      rw [hbc] at kbc
      rw [underP_trans hab hbc] at kac
      have KBC := hid kbc
      have KAC := hid kac
      clear kab kba kbc kac hab hbc
      go_enter Tryd.func4, Tryd.ntmps4
      go_wp2_with fail
      refine (awake_any w HM.out.mx).mono ?_
      rintro e w1 ⟨rfl, hb1⟩
      have HG1 := hid (HM.out.next hb1)
      clear hb1
      go_wp2_with fail
      refine (KAA.out _ HG1.out.mx).mono ?_
      rintro e w2 ⟨rfl, hb2⟩
      have HG2 := hid (HG1.out.next hb2)
      clear hb2
      go_wp2_with fail
      refine (KAB.out _ HG2.out.mx).mono ?_
      rintro e w3 ⟨rfl, hb3⟩
      have HG3 := hid (HG2.out.next hb3)
      clear hb3
      go_wp2_with fail
      refine (KBA.out _ HG3.out.mx).mono ?_
      rintro e w4 ⟨rfl, hb4⟩
      have HG4 := hid (HG3.out.next hb4)
      clear hb4
      go_wp2_with fail
      refine (KAB.out _ HG4.out.mx).mono ?_
      rintro e w5 ⟨rfl, hb5⟩
      have HG5 := hid (HG4.out.next hb5)
      clear hb5
      go_wp2_with fail
      refine (KBC.out _ HG5.out.mx).mono ?_
      rintro e w6 ⟨rfl, hb6⟩
      have HG6 := hid (HG5.out.next hb6)
      clear hb6
      go_wp2_with fail
      refine (KAC.out _ HG6.out.mx).mono ?_
      rintro e w7 ⟨rfl, hb7⟩
      have HG7 := hid (HG6.out.next hb7)
      clear hb7
      go_wp2_with fail
      refine (K8.out _ HG7.out.mx).mono ?_
      rintro e w8 ⟨ho, hb8⟩
      have HG8 := hid (HG7.out.next hb8)
      clear hb8
      cases hsp : splitP a with
      | none =>
        rw [hsp] at ho
        have he : e = _ := ho
        subst he
        have hr : underP a [47] = false := by rw [underP_root, hsp]
        rw [hr] at KR
        clear ho hsp hr
        go_wp2_with fail
        refine (KR.out _ HG8.out.mx).mono ?_
        rintro e w9 ⟨rfl, hb9⟩
        have HG9 := hid (HG8.out.next hb9)
        clear hb9
        go_wp2_with fail
        go_ret
        exact ⟨rfl, HG9.out.below⟩
      | some l =>
        rw [hsp] at ho
        obtain ⟨a1, c1, rfl, hc1, ht1⟩ := ho
        have hr : underP a [47] = decide (0 < l.length) := by rw [underP_root, hsp]
        rw [hr] at KR
        obtain ⟨n, hn⟩ : ∃ n, l.length = n := ⟨_, rfl⟩
        rw [hn] at KR ⊢
        clear hsp hr hc1 ht1 hn
        by_cases hp : 0 < n
        · have g5 : 0 < (n : Int) := by omega
          rw [decide_eq_true hp] at KR
          go_wp2_with fail
          refine (KR.out _ HG8.out.mx).mono ?_
          rintro e w9 ⟨rfl, hb9⟩
          have HG9 := hid (HG8.out.next hb9)
          clear hb9
          go_wp2_with fail
          go_ret
          exact ⟨rfl, HG9.out.below⟩
        · have g5 : ¬ 0 < (n : Int) := by omega
          rw [decide_eq_false hp] at KR
          go_wp2_with fail
          refine (KR.out _ HG8.out.mx).mono ?_
          rintro e w9 ⟨rfl, hb9⟩
          have HG9 := hid (HG8.out.next hb9)
          clear hb9
          go_wp2_with fail
          go_ret
          exact ⟨rfl, HG9.out.below⟩
end Go.Proofs.YtllgdfdiigjecaaDoor
