/- The program's Name and names. No condition. -/
import Derived.Test.YtllgdfdiigjecaaDoorNameA
import Derived.Test.YtllgdfdiigjecaaDoorLays
namespace Go.Proofs.YtllgdfdiigjecaaDoor
open Go.RowKit
set_option maxRecDepth 4000
theorem bytes_below (w : World) (s : ByteArray) : Below w.heap.size w (Lib.bytesWorld w 5 s) := by
  refine ⟨?_, ?_, ?_, ?_, fun k hk => Lib.bytesWorld_at_old w 5 s k hk⟩
  · simp [Lib.bytesWorld, World.freeze, World.alloc, World.drew, -World.alloc_eq, -World.drew_eq]
  · simp [Lib.bytesWorld, World.freeze, World.alloc, World.drew, -World.alloc_eq, -World.drew_eq]
  · simp [Lib.bytesWorld, World.freeze, World.alloc, World.drew, -World.alloc_eq, -World.drew_eq]
  · rw [Lib.bytesWorld_size]; omega
theorem name_any (w : World) (s : Str) : Calls Tryd.prog 10 #[.string (mk s)] w fun e w' => e = .returned (.bool (nameB s)) ∧ Below w.heap.size w w' := by
  obtain ⟨n, hn⟩ : ∃ n, s.length = n := ⟨_, rfl⟩
  have hsz : (mk s).size = n := by rw [mk_size, hn]
  have htl := mk_toList s
  have HN := hid hn
  clear hn
  obtain ⟨S, hS⟩ : ∃ S, mk s = S := ⟨_, rfl⟩
  have HS := hid hS
  by_cases p1 : n < 1
  · have g1 : (n : Int) < 1 := by omega
    rw [hS] at hsz ⊢
    clear htl hS p1
    go_enter Tryd.func10, Tryd.ntmps10
    go_wp2_with fail
    go_ret
    exact ⟨by rw [nameB_false (fun e => by have := e.1; have := HN.out; omega)]; rfl, Below.refl _ _⟩
  by_cases p2 : 16 < n
  · have g1 : ¬ (n : Int) < 1 := by omega
    have g2 : 16 < (n : Int) := by omega
    rw [hS] at hsz ⊢
    clear htl hS p1 p2
    go_enter Tryd.func10, Tryd.ntmps10
    go_wp2_with fail
    go_ret
    exact ⟨by rw [nameB_false (fun e => by have := e.2.1; have := HN.out; omega)]; rfl, Below.refl _ _⟩
  have g1 : ¬ (n : Int) < 1 := by omega
  have g2 : ¬ 16 < (n : Int) := by omega
  rw [hS] at hsz htl ⊢
  by_cases p3 : s = [46]
  · have g3 : (S.toList == [46]) = true := by rw [htl, p3]; rfl
    clear htl hS p1 p2
    have P3 := hid p3
    clear p3
    go_enter Tryd.func10, Tryd.ntmps10
    go_wp2_with fail
    go_ret
    exact ⟨by rw [nameB_false (fun e => e.2.2.1 P3.out)]; rfl, Below.refl _ _⟩
  have g3 : (S.toList == [46]) = false := by rw [htl]; exact beq_eq_false_iff_ne.2 p3
  by_cases p4 : s = [46, 46]
  · have g4 : (S.toList == [46, 46]) = true := by rw [htl, p4]; rfl
    clear htl hS p1 p2 p3
    have P4 := hid p4
    clear p4
    go_enter Tryd.func10, Tryd.ntmps10
    go_wp2_with fail
    go_ret
    exact ⟨by rw [nameB_false (fun e => e.2.2.2.1 P4.out)]; rfl, Below.refl _ _⟩
  have g4 : (S.toList == [46, 46]) = false := by rw [htl]; exact beq_eq_false_iff_ne.2 p4
  have HP3 := hid p3
  have HP4 := hid p4
  have kc := Lib.run_convert_string_bytes (P := Tryd.prog) w 9 34 5 S Tryd.underlying9 Tryd.underlying34 Tryd.underlying5
  obtain ⟨C, hC⟩ : ∃ C, grownCap w S.size 0 5 = C := ⟨_, rfl⟩
  rw [hC, hsz] at kc
  have hbw := bytes_below w S
  have hcell := Lib.bytesWorld_cell w 5 S
  obtain ⟨w1, hw1⟩ : ∃ w1, Lib.bytesWorld w 5 S = w1 := ⟨_, rfl⟩
  rw [hw1] at kc hbw hcell
  have HB1 := hid hbw
  have HCELL := hid hcell
  clear htl hS p1 p2 p3 p4 hbw hcell hw1 hC
  go_enter Tryd.func10, Tryd.ntmps10
  go_wp2_with fail
  clear g3 g4 kc
  go_loopg [24] n (fun k v wr => ∃ i : Nat, i ≤ n ∧ k = n - i ∧ v = .int .i64 i ∧ wr = w1 ∧ Hid (∀ j, j < i → okb (s.getD j 0) = true))
  case atStart => exact ⟨0, by omega, by omega, rfl, rfl, hid (fun j hj => by omega)⟩
  case round =>
    obtain ⟨i, hi, rfl, rfl, rfl, HO⟩ := hrel
    by_cases hlt : i < n
    · obtain ⟨c, hb⟩ : ∃ c, (s.getD i 0).toNat = c := ⟨_, rfl⟩
      have hgc : wr.cell? ⟨w.heap.size, i, none⟩ = some (.int .u8 c) := by
        rw [HCELL.out i (by omega), ← HS.out, mk_list, hb]
      have HB := hid hb
      clear hb
      have hil : i < s.length := by have := HN.out; omega
      have HIL := hid hil
      clear hil
      have h47 : ((ByteArray.mk #[47])[0]'(by decide)).toNat = 47 := rfl
      by_cases q1 : c < 33
      · have r1 : (c : Int) < 33 := by omega
        clear q1
        go_wp2_with fail
        go_ret
        exact ⟨by rw [name_bad HIL.out (by rw [okb_of, HB.out]; simp; omega)]; rfl, HB1.out⟩
      by_cases q2 : 126 < c
      · have r1 : ¬ (c : Int) < 33 := by omega
        have r2 : 126 < (c : Int) := by omega
        clear q1 q2
        go_wp2_with fail
        go_ret
        exact ⟨by rw [name_bad HIL.out (by rw [okb_of, HB.out]; simp; omega)]; rfl, HB1.out⟩
      have r1 : ¬ (c : Int) < 33 := by omega
      have r2 : ¬ 126 < (c : Int) := by omega
      by_cases q3 : c = 47
      · have r3 : ((c : Int) == 47) = true := by simp; omega
        have Q3 := hid q3
        clear q1 q2 q3
        go_wp2_with fail
        go_ret
        exact ⟨by rw [name_bad HIL.out (by rw [okb_of, HB.out]; simp [Q3.out])]; rfl, HB1.out⟩
      have r3 : ((c : Int) == 47) = false := by rw [beq_eq_false_iff_ne]; omega
      have Q3 := hid q3
      have hok : okb (s.getD i 0) = true := by rw [okb_of, HB.out]; simp [q3]; omega
      have HOK := hid hok
      clear q1 q2 q3 hok
      go_wp2_with fail
      go_roundg (n - (i + 1))
      case measure => omega
      case rel =>
        refine ⟨i + 1, by omega, by omega, by go_num, rfl, hid (fun j hj => ?_)⟩
        by_cases e : j = i
        · subst e; exact HOK.out
        · exact HO.out j (by omega)
    · have hin : i = n := by omega
      subst hin
      go_wp2_with fail
      go_ret
      have : nameB s = true := (nameB_iff s).2 ⟨by have := HN.out; omega, by have := HN.out; omega, HP3.out, HP4.out, fun j hj => HO.out j (by have := HN.out; omega)⟩
      exact ⟨by rw [this]; rfl, HB1.out⟩
end Go.Proofs.YtllgdfdiigjecaaDoor
