/- The document's Split for every text; both sides' Under; the program's Join. Conditions: internal/bytealg.MaxLen holds an integer (the program's Under); what is joined fits (Join). -/
import Derived.Test.YtllgdfdiigjecaaDoorRefB
namespace Go.Proofs.YtllgdfdiigjecaaDoor
open Go.RowKit
set_option maxRecDepth 4000
theorem rsplit_any (w : World) (s : Str) : Calls Tryd.prog 9 #[.string (mk s)] w fun e w' => SplitOut w' (splitP s) e ∧ Below w.heap.size w w' := by
  by_cases hc : ∃ r, s = 47 :: r ∧ r ≠ [] ∧ r.length + 1 ≤ 64
  · obtain ⟨r, rfl, hr, hl⟩ := hc
    exact rsplit_walk w r hr _ rfl hl
  obtain ⟨n, hn⟩ : ∃ n, s.length = n := ⟨_, rfl⟩
  have hsz : (mk s).size = n := by rw [mk_size, hn]
  have htl : (mk s).toList = s := mk_toList s
  by_cases h1 : s = [47]
  · have he : splitP s = some [] := by rw [h1]; exact splitP_nil
    have g1 : ((mk s).toList == [47]) = true := by rw [htl, h1]; rfl
    rw [he]
    obtain ⟨S, hS⟩ : ∃ S, mk s = S := ⟨_, rfl⟩
    rw [hS] at hsz htl g1 ⊢
    clear hS h1 he htl hc hn
    go_enter Tryd.func9, Tryd.ntmps9
    go_wp2_with fail
    go_ret2
    exact ⟨out_some none 0 rfl (Nat.le_refl _) (.inl rfl), Below.refl _ _⟩
  have he : splitP s = none := by
    cases s with
    | nil => rfl
    | cons b r =>
      rw [splitP_cons]
      by_cases hb : b = 47 ∧ r.length + 1 ≤ 64
      · exact absurd ⟨r, by rw [hb.1], fun e => h1 (by rw [hb.1, e]), hb.2⟩ hc
      · rw [if_neg hb]
  have g1 : ((mk s).toList == [47]) = false := by rw [htl]; exact beq_eq_false_iff_ne.2 h1
  rw [he]
  by_cases h0 : n = 0
  · have g2 : ((n : Int) == 0) = true := by rw [beq_iff_eq]; omega
    obtain ⟨S, hS⟩ : ∃ S, mk s = S := ⟨_, rfl⟩
    rw [hS] at hsz htl g1 ⊢
    clear hS h1 he htl hc hn h0
    go_enter Tryd.func9, Tryd.ntmps9
    go_wp2_with fail
    go_ret2
    exact ⟨out_none rfl, Below.refl _ _⟩
  have g2 : ((n : Int) == 0) = false := by rw [beq_eq_false_iff_ne]; omega
  by_cases h64 : 64 < n
  · have g3 : 64 < (n : Int) := by omega
    obtain ⟨S, hS⟩ : ∃ S, mk s = S := ⟨_, rfl⟩
    rw [hS] at hsz htl g1 ⊢
    clear hS h1 he htl hc hn h0 h64
    go_enter Tryd.func9, Tryd.ntmps9
    go_wp2_with fail
    go_ret2
    exact ⟨out_none rfl, Below.refl _ _⟩
  have g3 : ¬ 64 < (n : Int) := by omega
  have hS0 : 0 < (mk s).size := by omega
  obtain ⟨b, hb⟩ : ∃ b, ((mk s)[0]'hS0).toNat = b := ⟨_, rfl⟩
  have hb47 : b ≠ 47 := by
    intro e
    rw [get_mk, e] at hb
    cases s with
    | nil => simp at hn; omega
    | cons x r =>
      have hx : x = 47 := UInt8.toNat_inj.1 hb
      exact hc ⟨r, by rw [hx], fun e2 => h1 (by rw [hx, e2]), by simp at hn; omega⟩
  have g4 : ((b : Int) == 47) = false := by rw [beq_eq_false_iff_ne]; omega
  obtain ⟨S, hS⟩ : ∃ S, mk s = S := ⟨_, rfl⟩
  have hS0' : 0 < S.size := by rw [← hS]; exact hS0
  have hb' : (S[0]'hS0').toNat = b := by subst hS; exact hb
  rw [hS] at hsz htl g1 ⊢
  clear hb hS0 hS h1 he htl hc hn h0 h64 hb47
  go_enter Tryd.func9, Tryd.ntmps9
  go_wp2_with fail
  go_ret2
  exact ⟨out_none rfl, Below.refl _ _⟩
/-- The program's Join. -/
theorem join_any (w : World) (a : Option Addr) (l : List Str) (n c : Nat) (hn : l.length = n) (hc : n ≤ c) (ht : Texts w a l) (hbig : n ≤ 140737488355328) (hj : (joinF l).length ≤ 281474976710656) :
    Calls Tryd.prog 14 #[.slice a n c] w fun e w' => e = .returned (.string (mk (joinP l))) ∧ Below w.heap.size w w' := by
  have hlib : Calls Tryd.prog 19 #[.slice a n c, .string ⟨#[47]⟩] w fun e w' => e = .returned (.string (mk (Lib.join l [47]))) ∧ Below w.heap.size w w' := by
    rcases ht with rfl | ⟨b, off, rfl, hb, hcell⟩
    · simp at hn
      subst hn
      exact (strings_Join_none a c ⟨#[47]⟩ w).mono fun e w' ⟨h1, h2⟩ => ⟨h1, by rw [h2]; exact Below.refl _ _⟩
    · have hl2 : (l.map mk).map (·.data.toList) = l := by
        rw [List.map_map]
        conv => rhs; rw [← List.map_id l]
        exact List.map_congr_left fun x _ => mk_list x
      have hlen : (Lib.join l [47]).length ≤ 281474976710656 := by
        have h1 := congrArg List.length (join_lib l)
        unfold joinP at h1
        split at h1
        · next e => subst e; simp [Lib.join_nil]
        · simp at h1; omega
      have := strings_Join_big b off c (l.map mk) ⟨#[47]⟩ w (fun j x hx => by
        rw [List.getElem?_map, Option.map_eq_some_iff] at hx
        obtain ⟨y, hy, rfl⟩ := hx
        have hjl := (List.getElem?_eq_some_iff.1 hy).1
        rw [hcell j hjl, List.getD_eq_getElem?_getD, hy]
        rfl) hb (by rw [List.length_map]; omega) (by rw [List.length_map]; omega) (by rw [hl2]; exact hlen)
      rw [hl2, List.length_map, hn] at this
      exact this
  have hjl : (Lib.join l [47]).length ≤ 281474976710656 := by
    have h1 := congrArg List.length (join_lib l)
    unfold joinP at h1
    split at h1
    · next e => subst e; simp [Lib.join_nil]
    · simp at h1; omega
  have hap : (ByteArray.mk #[47]) ++ mk (Lib.join l [47]) = mk (joinP l) := by
    rw [← join_lib l]
    exact mk_app [47] _
  have hsz : (mk (Lib.join l [47])).size ≤ 281474976710656 := by rw [mk_size]; exact hjl
  have h47 : (ByteArray.mk #[47]).size = 1 := rfl
  obtain ⟨J, hJ⟩ : ∃ J, mk (Lib.join l [47]) = J := ⟨_, rfl⟩
  rw [hJ] at hlib hap hsz
  obtain ⟨P, hP⟩ : ∃ P, mk (joinP l) = P := ⟨_, rfl⟩
  rw [hP] at hap ⊢
  obtain ⟨k, hk⟩ : ∃ k, J.size = k := ⟨_, rfl⟩
  rw [hk] at hsz
  have HL := hid hlib
  clear hlib hP hJ hjl hn ht hj hc
  go_enter Tryd.func14, Tryd.ntmps14
  go_wp2_with fail
  refine HL.out.mono ?_
  rintro e w1 ⟨rfl, hb1⟩
  have HB1 := hid hb1
  clear hb1 HL
  go_wp2_with fail
  go_ret
  exact ⟨rfl, HB1.out⟩
end Go.Proofs.YtllgdfdiigjecaaDoor
