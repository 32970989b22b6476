/- The document's example: 'awake' answers true. Condition: internal/bytealg.MaxLen holds an integer. -/
import Derived.Test.YtllgdfdiigjecaaDoorUnderR
namespace Go.Proofs.YtllgdfdiigjecaaDoor
open Go.RowKit
set_option maxRecDepth 4000
theorem awake_any (w : World) (hm : Max w) : Calls Tryd.prog 7 #[] w fun e w' => e = .returned (.bool true) ∧ Below w.heap.size w w' := by
  have k1 : Calls Tryd.prog 8 #[.string ⟨#[47, 97, 47, 98]⟩] w fun e w' => SplitOut w' (some [[97], [98]]) e ∧ Below w.heap.size w w' := by
    have := split_any w [47, 97, 47, 98] hm
    rw [show splitP [47, 97, 47, 98] = some [[97], [98]] by decide] at this
    exact this
  have k2 : ∀ w1, Calls Tryd.prog 10 #[.string ⟨#[97]⟩] w1 fun e w' => e = .returned (.bool true) ∧ Below w1.heap.size w1 w' := by
    intro w1
    have := name_any w1 [97]
    rw [show nameB [97] = true by decide] at this
    exact this
  have k3 : ∀ w1, Calls Tryd.prog 10 #[.string ⟨#[46, 46]⟩] w1 fun e w' => e = .returned (.bool false) ∧ Below w1.heap.size w1 w' := by
    intro w1
    have := name_any w1 [46, 46]
    rw [show nameB [46, 46] = false by decide] at this
    exact this
  have k4 : ∀ w1 a c, 2 ≤ c → Texts w1 a [[97], [98]] → Calls Tryd.prog 14 #[.slice a 2 c] w1 fun e w' => e = .returned (.string ⟨#[47, 97, 47, 98]⟩) ∧ Below w1.heap.size w1 w' :=
    fun w1 a c hc ht => join_any w1 a [[97], [98]] 2 c rfl hc ht (by decide) (by decide)
  have k5 : ∀ w1, Max w1 → Calls Tryd.prog 12 #[.string ⟨#[47, 97, 47, 98]⟩, .string ⟨#[47, 97]⟩] w1 fun e w' => e = .returned (.bool true) ∧ Below w1.heap.size w1 w' := by
    intro w1 h
    have := under_any w1 [47, 97, 47, 98] [47, 97] h
    rw [show underP [47, 97, 47, 98] [47, 97] = true by decide] at this
    exact this
  have k6 : ∀ w1, Max w1 → Calls Tryd.prog 12 #[.string ⟨#[47, 97]⟩, .string ⟨#[47, 97]⟩] w1 fun e w' => e = .returned (.bool false) ∧ Below w1.heap.size w1 w' := by
    intro w1 h
    have := under_any w1 [47, 97] [47, 97] h
    rw [underP_self] at this
    exact this
  have HM := hid hm
  have K1 := hid k1
  have K2 := hid k2
  have K3 := hid k3
  have K4 := hid k4
  have K5 := hid k5
  have K6 := hid k6
  clear hm k1 k2 k3 k4 k5 k6
  go_enter Tryd.func7, Tryd.ntmps7
  go_wp2_with fail
  refine K1.out.mono ?_
  rintro e w1 ⟨ho1, hb1⟩
  obtain ⟨a, c, he, hc, ht⟩ := ho1
  have hl2 : ([[97], [98]] : List Str).length = 2 := rfl
  rw [hl2] at he hc
  subst he
  obtain ⟨b, off, rfl, _, hcell⟩ := ht.at_ (by simp)
  have hx := hcell 1 (by decide)
  have hb' : mk (([[97], [98]] : List Str).getD 1 []) = ⟨#[98]⟩ := rfl
  rw [hb'] at hx
  have HT := hid ht
  have HB1 := hid hb1
  clear hl2 hb' hcell ht hb1
  go_wp2_with fail
  refine (K2.out _).mono ?_
  rintro e w2 ⟨rfl, hb2⟩
  have HB2 := hid (HB1.out.trans (hb2.mono HB1.out.size))
  have HT2 := hid (HT.out.below hb2)
  clear hb2 hx
  go_wp2_with fail
  refine (K3.out _).mono ?_
  rintro e w3 ⟨rfl, hb3⟩
  have HB3 := hid (HB2.out.trans (hb3.mono HB2.out.size))
  have HT3 := hid (HT2.out.below hb3)
  clear hb3
  go_wp2_with fail
  refine (K4.out _ _ _ hc HT3.out).mono ?_
  rintro e w4 ⟨rfl, hb4⟩
  have HB4 := hid (HB3.out.trans (hb4.mono HB3.out.size))
  clear hb4
  go_wp2_with fail
  refine (K5.out _ (HM.out.below HB4.out)).mono ?_
  rintro e w5 ⟨rfl, hb5⟩
  have HB5 := hid (HB4.out.trans (hb5.mono HB4.out.size))
  clear hb5
  go_wp2_with fail
  refine (K6.out _ (HM.out.below HB5.out)).mono ?_
  rintro e w6 ⟨rfl, hb6⟩
  have HB6 := hid (HB5.out.trans (hb6.mono HB5.out.size))
  clear hb6
  go_wp2_with fail
  go_ret
  exact ⟨rfl, HB6.out⟩
end Go.Proofs.YtllgdfdiigjecaaDoor
