/- PathJoin, as it is walked: names joined, and split again, are the names, as long as there are not too many. Conditions: internal/bytealg.MaxLen holds an integer; the row of texts takes at most 2 to the 47 bytes. -/
import Derived.Test.YtllgdfdiigjecaaDoorUnderW
namespace Go.Proofs.YtllgdfdiigjecaaDoor
open Go.RowKit
set_option maxRecDepth 4000
set_option linter.unusedVariables false
def tot (l : List Str) : Nat := (l.map fun x => 1 + x.length).sum
theorem tot_step (l : List Str) (i : Nat) (hi : i < l.length) : tot (l.take (i + 1)) = tot (l.take i) + (1 + (l.getD i []).length) := by
  unfold tot
  rw [List.take_add_one, List.getElem?_eq_getElem hi, List.getD_eq_getElem?_getD, List.getElem?_eq_getElem hi]
  simp only [List.map_append, List.sum_append, Option.toList_some, List.map_cons, List.map_nil, List.sum_cons, List.sum_nil, Nat.add_zero, Option.getD_some]
theorem nameB_len {x : Str} (h : nameB x = true) : x.length ≤ 16 := ((nameB_iff x).1 h).2.1
set_option maxHeartbeats 400000 in
theorem pathJoin_walk (w : World) (a : Option Addr) (l : List Str) (n c : Nat) (hn : l.length = n) (hc : n ≤ c) (ht : Texts w a l) (hbig : n ≤ 8796093022208) (hm : Max w) : Calls Tryd.prog 5 #[.slice a n c] w fun e w' => e = .returned (.bool true) ∧ Below w.heap.size w w' := by
  have HN := hid hn
  have HT := hid ht
  have HM := hid (Goes.refl hm)
  have HC := hid hc
  clear hn ht hm hc
  go_enter Tryd.func5, Tryd.ntmps5
  go_wp2_with fail
  refine (awake_any w HM.out.mx).mono ?_
  rintro e w1 ⟨rfl, hb1⟩
  have HG1 := hid (HM.out.next hb1)
  have HT1 := hid (HT.out.below hb1)
  clear hb1
  go_wp2_with fail
  go_loopg [3, 4] n (fun k v3 v4 wr => ∃ i T : Nat, i ≤ n ∧ k = n - i ∧ v4 = .int .i64 i ∧ v3 = .int .i64 T ∧ T ≤ 17 * i ∧ wr = w1 ∧ Hid (tot (l.take i) = T) ∧ Hid (∀ j, j < i → nameB (l.getD j []) = true))
  case atStart => exact ⟨0, 0, by omega, by omega, rfl, rfl, by omega, rfl, hid rfl, hid (fun j hj => by omega)⟩
  case round =>
    obtain ⟨i, T, hi, rfl, rfl, rfl, hT, rfl, HTT, HQ⟩ := hrel
    by_cases hlt : i < n
    · have hne : l ≠ [] := by intro e; have := HN.out; rw [e] at this; simp at this; omega
      obtain ⟨b, off, rfl, hblt, hcell⟩ := HT1.out.at_ hne
      have hil : i < l.length := by have := HN.out; omega
      have hx1 := hcell i hil
      have hst := tot_step l i hil
      obtain ⟨x, hx⟩ : ∃ x, l.getD i [] = x := ⟨_, rfl⟩
      rw [hx] at hx1 hst
      have HX := hid hx
      have HST := hid hst
      have k11 := fun w1 => rname_any w1 x
      obtain ⟨kx, hkx⟩ : ∃ kx, x.length = kx := ⟨_, rfl⟩
      have hsz : (mk x).size = kx := by rw [mk_size, hkx]
      have hgi : (i : Int) < (n : Int) := by omega
      have HKX := hid hkx
      obtain ⟨X, hX⟩ : ∃ X, mk x = X := ⟨_, rfl⟩
      rw [hX] at hx1 k11 hsz
      cases hnb : nameB x with
      | false =>
        rw [hnb] at k11
        have K11 := hid k11
        clear k11 hnb hX hx hst hkx hcell hblt hne hil
        go_wp2_with fail
        refine (K11.out _).mono ?_
        rintro e w2 ⟨rfl, rfl⟩
        go_wp2_with fail
        go_ret
        exact ⟨rfl, HG1.out.below⟩
      | true =>
        have h16 := nameB_len hnb
        rw [hkx] at h16
        rw [hnb] at k11
        have K11 := hid k11
        have HNB := hid hnb
        clear k11 hnb hX hx hst hkx hcell hblt hne hil
        obtain ⟨w2, hw2⟩ : ∃ w2, wr = w2 := ⟨_, rfl⟩
        subst hw2
        go_wp2_with fail
        refine (K11.out _).mono ?_
        rintro e w3 ⟨rfl, hw3⟩
        subst hw3
        go_wp2_with fail
        go_roundg (n - (i + 1))
        case measure => omega
        case rel =>
          refine ⟨i + 1, T + (1 + kx), by omega, by omega, by go_num, by go_num, by omega, rfl, ?_, hid (fun j hj => ?_)⟩
          · show tot _ = _
            rw [HST.out, HTT.out, HKX.out]
          · by_cases e : j = i
            · subst e; rw [HX.out]; exact HNB.out
            · exact HQ.out j (by omega)
    · have hin : i = n := by omega
      subst hin
      have hall : ∀ x ∈ l, nameB x = true := by
        intro x hx
        obtain ⟨j, hj, rfl⟩ := List.getElem_of_mem hx
        have := HQ.out j (by have := HN.out; omega)
        rwa [List.getD_eq_getElem?_getD, List.getElem?_eq_getElem hj] at this
      have htot : tot l = T := by
        have := HTT.out
        rwa [List.take_of_length_le (by have := HN.out; omega)] at this
      have hsp := splitP_joinP hall
      have hjl := joinF_len l
      have e1 : (l.map fun x => 1 + x.length).sum = T := htot
      rw [e1] at hsp hjl
      rw [HN.out] at hsp
      have k14 := join_any wr a l i c HN.out HC.out HT1.out (by omega) (by rw [hjl]; omega)
      have k8 := fun w1 (h : Max w1) => split_any w1 (joinP l) h
      obtain ⟨J, hJ⟩ : ∃ J, mk (joinP l) = J := ⟨_, rfl⟩
      rw [hJ] at k14 k8
      have K14 := hid k14
      have K8 := hid k8
      have HSP := hid hsp
      clear hall htot hsp hjl e1 k14 k8 hJ
      obtain ⟨w2, hw2⟩ : ∃ w2, wr = w2 := ⟨_, rfl⟩
      subst hw2
      go_wp2_with fail
      refine K14.out.mono ?_
      rintro e w3 ⟨rfl, hb3⟩
      have HG3 := hid (HG1.out.next hb3)
      have HT3 := hid (HT1.out.below hb3)
      clear hb3
      go_wp2_with fail
      refine (K8.out _ HG3.out.mx).mono ?_
      rintro e w4 ⟨ho4, hb4⟩
      have HG4 := hid (HG3.out.next hb4)
      have HT4 := hid (HT3.out.below hb4)
      clear hb4
      by_cases h8 : 8 < i
      · have g8 : 8 < (i : Int) := by omega
        rw [HSP.out, if_pos (.inl h8)] at ho4
        have he : e = _ := ho4
        subst he
        clear ho4
        go_wp2_with fail
        go_ret
        exact ⟨rfl, HG4.out.below⟩
      · have g8 : ¬ 8 < (i : Int) := by omega
        by_cases h64 : 64 < T
        · have g64 : 64 < (T : Int) := by omega
          rw [HSP.out, if_pos (.inr h64)] at ho4
          have he : e = _ := ho4
          subst he
          clear ho4
          go_wp2_with fail
          go_ret
          exact ⟨rfl, HG4.out.below⟩
        · have g64 : ¬ 64 < (T : Int) := by omega
          rw [HSP.out, if_neg (by omega)] at ho4
          obtain ⟨a2, c2, rfl, hc2, ht2⟩ := ho4
          have hni := HN.out
          rw [hni] at hc2 ⊢
          have HT2 := hid ht2
          clear ht2 hni
          obtain ⟨w5, hw5⟩ : ∃ w5, w4 = w5 := ⟨_, rfl⟩
          subst hw5
          go_wp2_with fail
          go_loopg [8] i (fun k v w6 => ∃ j q : Nat, j ≤ i ∧ k = i - j ∧ v = .int .i64 j ∧ w6 = w4.drewN q)
          case atStart => exact ⟨0, 0, by omega, by omega, rfl, rfl⟩
          case round =>
            obtain ⟨j, q, hj, rfl, rfl, hw6⟩ := hrel
            by_cases hlt2 : j < i
            · have hne : l ≠ [] := by intro e; have := HN.out; rw [e] at this; simp at this; omega
              obtain ⟨b1, o1, rfl, _, hcell1⟩ := HT4.out.at_ hne
              obtain ⟨b2, o2, rfl, _, hcell2⟩ := HT2.out.at_ hne
              have hil : j < l.length := by have := HN.out; omega
              have hx1 := hcell1 j hil
              have hy1 := hcell2 j hil
              obtain ⟨X, hX⟩ : ∃ X, mk (l.getD j []) = X := ⟨_, rfl⟩
              rw [hX] at hx1 hy1
              have hX1 : wr.cell? ⟨b1, o1 + j, none⟩ = some (.string X) := by rw [hw6]; exact hx1
              have hY1 : wr.cell? ⟨b2, o2 + j, none⟩ = some (.string X) := by rw [hw6]; exact hy1
              have HW := hid hw6
              have gji : (j : Int) < (i : Int) := by omega
              clear hcell1 hcell2 hne hil hx1 hy1 hX hw6
              go_wp2_with fail
              go_quiet (fail)
              go_wp2_with fail
              go_roundg (i - (j + 1))
              case measure => omega
              case rel => exact ⟨j + 1, q + nq, by omega, by omega, by go_num, by rw [HW.out, World.drewN_drewN]⟩
            · have hji : j = i := by omega
              subst hji
              go_wp2_with fail
              go_ret
              exact ⟨rfl, ⟨HG4.out.below.os, HG4.out.below.tape, HG4.out.below.output, HG4.out.below.size, HG4.out.below.block⟩⟩
end Go.Proofs.YtllgdfdiigjecaaDoor
