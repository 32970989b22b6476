/- The program's Split. Condition: internal/bytealg.MaxLen holds an integer. -/
import Derived.Test.YtllgdfdiigjecaaDoorSplitA
namespace Go.Proofs.YtllgdfdiigjecaaDoor
open Go.RowKit
set_option maxRecDepth 4000
theorem out_none {w : World} {e : Ending} (h : e = .returned (.tuple #[.slice none 0 0, .int .i64 3])) : SplitOut w none e := h
theorem out_some {w : World} {e : Ending} {l : List Str} (a : Option Addr) (c : Nat) (h : e = .returned (.tuple #[.slice a l.length c, .int .i64 0])) (h2 : l.length ≤ c) (h3 : Texts w a l) : SplitOut w (some l) e := ⟨a, c, h, h2, h3⟩
theorem split_any (w : World) (s : Str) (hm : Max w) : Calls Tryd.prog 8 #[.string (mk s)] w fun e w' => SplitOut w' (splitP s) e ∧ Below w.heap.size w w' := by
  obtain ⟨n, hn⟩ : ∃ n, s.length = n := ⟨_, rfl⟩
  have hsz : (mk s).size = n := by rw [mk_size, hn]
  by_cases hs : ∃ r, s = 47 :: r
  · obtain ⟨r, rfl⟩ := hs
    have hk := cut_yes r w
    have hmr : (mk r).toList = r := mk_toList r
    obtain ⟨S, hS⟩ : ∃ S, mk (47 :: r) = S := ⟨_, rfl⟩
    rw [hS] at hsz hk ⊢
    have hlen : r.length + 1 = n := by simpa using hn
    have HS := hid hlen
    have HM := hid hm
    clear hS hn hm
    by_cases g : 64 < n
    · have g1 : 64 < (n : Int) := by omega
      have he : splitP (47 :: r) = none := by rw [splitP_cons, if_neg (fun e => by omega)]
      rw [he]
      clear g hlen he hmr
      have HK := hid hk
      clear hk
      go_enter Tryd.func8, Tryd.ntmps8
      go_wp2_with fail
      refine HK.out.mono ?_
      rintro e w1 ⟨rfl, rfl⟩
      go_wp2_with fail
      go_ret2
      exact ⟨out_none rfl, Below.refl _ _⟩
    have g1 : ¬ 64 < (n : Int) := by omega
    by_cases hr : r = []
    · have he : splitP (47 :: r) = some [] := by rw [hr]; exact splitP_nil
      rw [he]
      have g2 : ((mk r).toList == []) = true := by rw [hmr, hr]; rfl
      obtain ⟨R, hR⟩ : ∃ R, mk r = R := ⟨_, rfl⟩
      rw [hR] at hk g2
      clear g hlen he hmr hR hr
      have HK := hid hk
      clear hk
      go_enter Tryd.func8, Tryd.ntmps8
      go_wp2_with fail
      refine HK.out.mono ?_
      rintro e w1 ⟨rfl, rfl⟩
      go_wp2_with fail
      go_ret2
      exact ⟨out_some none 0 rfl (Nat.le_refl _) (.inl rfl), Below.refl _ _⟩
    have g2 : ((mk r).toList == []) = false := by rw [hmr]; exact beq_eq_false_iff_ne.2 hr
    have he : splitP (47 :: r) = if (pieces r).length ≤ 8 ∧ (pieces r).all nameB = true then some (pieces r) else none := by rw [splitP_cons, if_pos ⟨rfl, by omega⟩, if_neg hr]
    rw [he]
    have hsp := fun w1 (h : Max w1) => splitS_any r w1 h (by omega)
    have hpl : (pieces r).length ≤ 100 := by
      have e := congrArg List.length (joinF_pieces r)
      rw [joinF_len] at e
      have : ∀ l : List Str, l.length ≤ (l.map fun x => 1 + x.length).sum := fun l => by
        induction l with
        | nil => simp
        | cons x t ih => simp at ih ⊢; omega
      have := this (pieces r)
      simp at e
      omega
    obtain ⟨R, hR⟩ : ∃ R, mk r = R := ⟨_, rfl⟩
    rw [hR] at hk g2 hsp
    obtain ⟨L, hL⟩ : ∃ L, pieces r = L := ⟨_, rfl⟩
    obtain ⟨k, hkl⟩ : ∃ k, L.length = k := ⟨_, rfl⟩
    rw [hL, hkl] at hpl
    rw [hL] at hsp ⊢
    obtain ⟨o, ho⟩ : ∃ o, (if L.length ≤ 8 ∧ L.all nameB = true then some L else none) = o := ⟨_, rfl⟩
    have HO := hid ho
    rw [ho]
    have HPL := hid hpl
    clear ho hpl
    have HK := hid hk
    have HSP := hid hsp
    have HKL := hid hkl
    rw [hkl] at hsp
    clear hsp
    clear g hlen he hmr hr hR hL hk hkl
    go_enter Tryd.func8, Tryd.ntmps8
    go_wp2_with fail
    refine HK.out.mono ?_
    rintro e w1 ⟨rfl, rfl⟩
    clear HK
    go_wp2_with fail
    refine (HSP.out _ HM.out).mono ?_
    rintro e w2 ⟨a, rfl, ht, hb2⟩
    have HT := hid ht
    have HB2 := hid hb2
    have hkl2 := HKL.out
    rw [hkl2]
    clear ht hb2 HSP hkl2 g1 g2 hsz
    by_cases g8 : 8 < k
    · have g3 : 8 < (k : Int) := by omega
      clear g8
      go_wp2_with fail
      go_ret2
      refine ⟨?_, HB2.out⟩
      rw [← HO.out, if_neg (fun e => by have := HKL.out; omega)]
      exact out_none rfl
    · have g3 : ¬ 8 < (k : Int) := by omega
      go_wp2_with fail
      refine (names_any w2 a L k k HKL.out HT.out (by have := HPL.out; omega)).mono ?_
      rintro e w3 ⟨rfl, hb3⟩
      have HT3 := hid (HT.out.below hb3)
      have HB3 := hid (HB2.out.trans (hb3.mono HB2.out.size))
      clear hb3
      cases hall : L.all nameB with
      | false =>
        have HA := hid hall
        clear hall
        go_wp2_with fail
        go_ret2
        refine ⟨?_, HB3.out⟩
        rw [← HO.out, if_neg (fun e => by have := e.2; rw [HA.out] at this; cases this)]
        exact out_none rfl
      | true =>
        have HA := hid hall
        clear hall
        go_wp2_with fail
        go_ret2
        refine ⟨?_, HB3.out⟩
        rw [← HO.out, if_pos ⟨by have := HKL.out; omega, HA.out⟩]
        exact out_some a k (by rw [HKL.out]; rfl) (by have := HKL.out; omega) HT3.out
  · have hk := cut_no s (fun r e => hs ⟨r, e⟩) w
    have he : splitP s = none := by
      cases s with
      | nil => rfl
      | cons b r => rw [splitP_cons, if_neg (fun e => hs ⟨r, by rw [e.1]⟩)]
    rw [he]
    obtain ⟨S, hS⟩ : ∃ S, mk s = S := ⟨_, rfl⟩
    rw [hS] at hsz hk ⊢
    have HK := hid hk
    clear hS hn hm hs he hk
    go_enter Tryd.func8, Tryd.ntmps8
    go_wp2_with fail
    refine HK.out.mono ?_
    rintro e w1 ⟨rfl, rfl⟩
    go_wp2_with fail
    go_ret2
    exact ⟨out_none rfl, Below.refl _ _⟩
end Go.Proofs.YtllgdfdiigjecaaDoor
