/- Whether a text is a name, by the program and by the document: one answer. No condition. -/
import Derived.Test.YtllgdfdiigjecaaDoorMem
namespace Go.Proofs.YtllgdfdiigjecaaDoor
open Go.RowKit
set_option maxRecDepth 4000
theorem mk_toList (s : Str) : (mk s).toList = s := by rw [Lib.toList_data, mk_list]
theorem nameB_iff (s : Str) : nameB s = true ↔ 1 ≤ s.length ∧ s.length ≤ 16 ∧ s ≠ [46] ∧ s ≠ [46, 46] ∧ ∀ i, i < s.length → okb (s.getD i 0) = true := by
  unfold nameB
  simp only [Bool.and_eq_true, decide_eq_true_eq, Bool.not_eq_true', beq_eq_false_iff_ne, List.all_eq_true, and_assoc, ne_eq]
  constructor
  · rintro ⟨h1, h2, h3, h4, h5⟩
    exact ⟨h1, h2, h3, h4, fun i hi => by rw [List.getD_eq_getElem?_getD, List.getElem?_eq_getElem hi]; exact h5 _ (List.getElem_mem hi)⟩
  · rintro ⟨h1, h2, h3, h4, h5⟩
    refine ⟨h1, h2, h3, h4, fun b hb => ?_⟩
    obtain ⟨i, hi, rfl⟩ := List.getElem_of_mem hb
    have := h5 i hi
    rwa [List.getD_eq_getElem?_getD, List.getElem?_eq_getElem hi] at this
theorem nameB_false {s : Str} (h : ¬ (1 ≤ s.length ∧ s.length ≤ 16 ∧ s ≠ [46] ∧ s ≠ [46, 46] ∧ ∀ i, i < s.length → okb (s.getD i 0) = true)) : nameB s = false := by
  cases hb : nameB s with
  | false => rfl
  | true => exact absurd ((nameB_iff s).1 hb) h
theorem name_bad {s : Str} {i : Nat} (hi : i < s.length) (h : okb (s.getD i 0) = false) : nameB s = false :=
  nameB_false fun e => by have := e.2.2.2.2 i hi; rw [h] at this; cases this
theorem get_mk (s : Str) (i : Nat) (h : i < (mk s).size) : ((mk s)[i]'h).toNat = (s.getD i 0).toNat := by
  have hi : i < s.length := by rw [mk_size] at h; exact h
  have : (mk s)[i]'h = s[i]'hi := rfl
  rw [this, List.getD_eq_getElem?_getD, List.getElem?_eq_getElem hi]
  rfl
theorem okb_of (b : UInt8) : okb b = (decide (33 ≤ b.toNat) && decide (b.toNat ≤ 126) && !(decide (b.toNat = 47))) := by
  unfold okb
  have : (b == 47) = decide (b.toNat = 47) := by
    rw [Bool.eq_iff_iff, beq_iff_eq, decide_eq_true_eq]
    exact ⟨fun h => by subst h; rfl, fun h => UInt8.toNat_inj.1 h⟩
  rw [this]
theorem rname_any (w : World) (s : Str) : Calls Tryd.prog 11 #[.string (mk s)] w fun e w' => e = .returned (.bool (nameB s)) ∧ w' = w := by
  obtain ⟨n, hn⟩ : ∃ n, s.length = n := ⟨_, rfl⟩
  have hsz : (mk s).size = n := by rw [mk_size, hn]
  have htl := mk_toList s
  have HN := hid hn
  clear hn
  obtain ⟨S, hS⟩ : ∃ S, mk s = S := ⟨_, rfl⟩
  have HS := hid hS
  by_cases p1 : n < 1
  · have g1 : (n : Int) < 1 := by omega
    rw [hS] at hsz ⊢
    clear htl hS p1
    go_enter Tryd.func11, Tryd.ntmps11
    go_wp2_with fail
    go_ret
    exact ⟨by rw [nameB_false (fun e => by have := e.1; have := HN.out; omega)]; rfl, rfl⟩
  by_cases p2 : 16 < n
  · have g1 : ¬ (n : Int) < 1 := by omega
    have g2 : 16 < (n : Int) := by omega
    rw [hS] at hsz ⊢
    clear htl hS p1 p2
    go_enter Tryd.func11, Tryd.ntmps11
    go_wp2_with fail
    go_ret
    exact ⟨by rw [nameB_false (fun e => by have := e.2.1; have := HN.out; omega)]; rfl, rfl⟩
  have g1 : ¬ (n : Int) < 1 := by omega
  have g2 : ¬ 16 < (n : Int) := by omega
  rw [hS] at hsz htl ⊢
  by_cases p3 : s = [46]
  · have g3 : (S.toList == [46]) = true := by rw [htl, p3]; rfl
    clear htl hS p1 p2
    have P3 := hid p3
    clear p3
    go_enter Tryd.func11, Tryd.ntmps11
    go_wp2_with fail
    go_ret
    exact ⟨by rw [nameB_false (fun e => e.2.2.1 P3.out)]; rfl, rfl⟩
  have g3 : (S.toList == [46]) = false := by rw [htl]; exact beq_eq_false_iff_ne.2 p3
  by_cases p4 : s = [46, 46]
  · have g4 : (S.toList == [46, 46]) = true := by rw [htl, p4]; rfl
    clear htl hS p1 p2 p3
    have P4 := hid p4
    clear p4
    go_enter Tryd.func11, Tryd.ntmps11
    go_wp2_with fail
    go_ret
    exact ⟨by rw [nameB_false (fun e => e.2.2.2.1 P4.out)]; rfl, rfl⟩
  have g4 : (S.toList == [46, 46]) = false := by rw [htl]; exact beq_eq_false_iff_ne.2 p4
  have HP3 := hid p3
  have HP4 := hid p4
  clear htl hS p1 p2 p3 p4
  go_enter Tryd.func11, Tryd.ntmps11
  go_wp2_with fail
  clear g3 g4
  go_loopg [3] n (fun k v wr => ∃ i : Nat, i ≤ n ∧ k = n - i ∧ v = .int .i64 i ∧ wr = w ∧ Hid (∀ j, j < i → okb (s.getD j 0) = true))
  case atStart => exact ⟨0, by omega, by omega, rfl, rfl, hid (fun j hj => by omega)⟩
  case round =>
    obtain ⟨i, hi, rfl, rfl, rfl, HO⟩ := hrel
    by_cases hlt : i < n
    · have hlt2 : i < S.size := by omega
      obtain ⟨c, hc⟩ : ∃ c, (S[i]'hlt2).toNat = c := ⟨_, rfl⟩
      have hb : (s.getD i 0).toNat = c := by
        have hS := HS.out
        subst hS
        rw [← hc]; exact (get_mk s i hlt2).symm
      have HB := hid hb
      clear hb
      have hil : i < s.length := by have := HN.out; omega
      have HIL := hid hil
      clear hil
      by_cases q1 : c < 33
      · have r1 : (c : Int) < 33 := by omega
        clear q1
        go_wp2_with fail
        go_ret
        exact ⟨by rw [name_bad HIL.out (by rw [okb_of, HB.out]; simp; omega)]; rfl, rfl⟩
      by_cases q2 : 126 < c
      · have r1 : ¬ (c : Int) < 33 := by omega
        have r2 : 126 < (c : Int) := by omega
        clear q1 q2
        go_wp2_with fail
        go_ret
        exact ⟨by rw [name_bad HIL.out (by rw [okb_of, HB.out]; simp; omega)]; rfl, rfl⟩
      have r1 : ¬ (c : Int) < 33 := by omega
      have r2 : ¬ 126 < (c : Int) := by omega
      by_cases q3 : c = 47
      · have r3 : ((c : Int) == 47) = true := by simp; omega
        have Q3 := hid q3
        clear q1 q2 q3
        go_wp2_with fail
        go_ret
        exact ⟨by rw [name_bad HIL.out (by rw [okb_of, HB.out]; simp [Q3.out])]; rfl, rfl⟩
      have r3 : ((c : Int) == 47) = false := by rw [beq_eq_false_iff_ne]; omega
      have Q3 := hid q3
      have hok : okb (s.getD i 0) = true := by rw [okb_of, HB.out]; simp [q3]; omega
      have HOK := hid hok
      clear q1 q2 q3 hok
      go_wp2_with fail
      go_roundg (n - (i + 1))
      case measure => omega
      case rel =>
        refine ⟨i + 1, by omega, by omega, by go_num, rfl, hid (fun j hj => ?_)⟩
        by_cases e : j = i
        · subst e; exact HOK.out
        · exact HO.out j (by omega)
    · have hin : i = n := by omega
      subst hin
      go_wp2_with fail
      go_ret
      have : nameB s = true := (nameB_iff s).2 ⟨by have := HN.out; omega, by have := HN.out; omega, HP3.out, HP4.out, fun j hj => HO.out j (by have := HN.out; omega)⟩
      exact ⟨by rw [this]; rfl, rfl⟩
end Go.Proofs.YtllgdfdiigjecaaDoor
