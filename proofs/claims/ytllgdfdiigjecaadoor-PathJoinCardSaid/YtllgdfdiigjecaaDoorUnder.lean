/- Both sides' Under. Condition: internal/bytealg.MaxLen holds an integer (the program's). -/
import Derived.Test.YtllgdfdiigjecaaDoorRefC
namespace Go.Proofs.YtllgdfdiigjecaaDoor
open Go.RowKit
set_option maxRecDepth 4000
theorem underP_some {a b : Str} {x y : List Str} (h1 : splitP a = some x) (h2 : splitP b = some y) : underP a b = (decide (y.length < x.length) && (x.take y.length == y)) := by unfold underP; rw [h1, h2]
theorem underP_none1 {a b : Str} (h1 : splitP a = none) : underP a b = false := by unfold underP; rw [h1]
theorem underP_none2 {a b : Str} (h1 : splitP b = none) : underP a b = false := by
  unfold underP; rw [h1]
  cases splitP a <;> rfl
theorem map_mk_data (l : List Str) : (l.map mk).map (fun s : ByteArray => s.data.toList) = l := by
  rw [List.map_map]
  conv => rhs; rw [← List.map_id l]
  exact List.map_congr_left fun x _ => mk_list x
theorem mk_map_take (x y : List Str) : decide ((x.map mk).take y.length = (y.map mk).take y.length) = (x.take y.length == y) := by
  have h1 : (y.map mk).take y.length = y.map mk := List.take_of_length_le (by simp)
  have h2 : (x.map mk).take y.length = (x.take y.length).map mk := by rw [List.map_take]
  rw [h1, h2]
  rw [Bool.eq_iff_iff, decide_eq_true_eq, beq_iff_eq]
  constructor
  · intro h
    have e := congrArg (List.map fun s : ByteArray => s.data.toList) h
    rwa [map_mk_data, map_mk_data] at e
  · intro h; rw [h]
theorem mk_map_get (x : List Str) (j : Nat) (hj : j < x.length) : (x.map mk).getD j ByteArray.empty = mk (x.getD j []) := by
  simp [List.getD_eq_getElem?_getD, hj]
theorem equal_any (w : World) (b1 o1 c1 : Nat) (a2 : Option Addr) (c2 : Nat) (x y : List Str) (m : Nat) (hm : y.length = m) (hx : m ≤ x.length) (h1 : ∀ i, i < x.length → w.cell? ⟨b1, o1 + i, none⟩ = some (.string (mk (x.getD i [])))) (h2 : Texts w a2 y) (hbig : m ≤ 1000000) :
    Calls Tryd.prog 18 #[.slice (some ⟨b1, o1, none⟩) m c1, .slice a2 m c2] w fun e w' => e = .returned (.bool (x.take m == y)) ∧ Below w.heap.size w w' := by
  subst hm
  by_cases hy : y = []
  · subst hy
    refine (slices_Equal_string_empty (some ⟨b1, o1, none⟩) a2 c1 0 c2 w (by omega)).mono fun e w' ⟨h3, h4⟩ => ⟨by rw [h3]; simp, by rw [h4]; exact Below.refl _ _⟩
  · obtain ⟨b2, o2, rfl, _, hc⟩ := h2.at_ hy
    refine (slices_Equal_string b1 o1 y.length c1 b2 o2 y.length c2 (x.map mk) (y.map mk) w (by simpa using hx) (by simp) (by omega) (by omega) (fun j hj => ?_) (fun j hj => ?_)).mono fun e w' ⟨h3, q, h4⟩ => ⟨by rw [h3, mk_map_take], by rw [h4]; exact ⟨rfl, rfl, rfl, Nat.le_refl _, fun _ _ => rfl⟩⟩
    · rw [List.length_map] at hj
      rw [mk_map_get x j hj]; exact h1 j hj
    · rw [List.length_map] at hj
      rw [mk_map_get y j hj]; exact hc j hj
theorem under_any (w : World) (a b : Str) (hm : Max w) : Calls Tryd.prog 12 #[.string (mk a), .string (mk b)] w fun e w' => e = .returned (.bool (underP a b)) ∧ Below w.heap.size w w' := by
  have h1 := split_any w a hm
  have h2 := fun w1 (h : Max w1) => split_any w1 b h
  obtain ⟨A, hA⟩ : ∃ A, mk a = A := ⟨_, rfl⟩
  obtain ⟨B, hB⟩ : ∃ B, mk b = B := ⟨_, rfl⟩
  rw [hA] at h1 ⊢
  rw [hB] at h2 ⊢
  obtain ⟨u, hu⟩ : ∃ u, underP a b = u := ⟨_, rfl⟩
  rw [hu]
  have HU := hid hu
  have HM := hid hm
  have H1 := hid h1
  have H2 := hid h2
  clear h1 h2 hA hB hm hu
  go_enter Tryd.func12, Tryd.ntmps12
  go_wp2_with fail
  refine H1.out.mono ?_
  rintro e w1 ⟨ho1, hb1⟩
  have HM1 := hid (HM.out.below hb1)
  have HB1 := hid hb1
  have k2 := hid (H2.out w1 HM1.out)
  cases hsa : splitP a with
  | none =>
    rw [hsa] at ho1
    have he : e = _ := ho1
    subst he
    have HSA := hid hsa
    clear hb1 hsa ho1
    go_wp2_with fail
    refine k2.out.mono ?_
    rintro e w2 ⟨ho2, hb2⟩
    have HB2 := hid (HB1.out.trans (hb2.mono HB1.out.size))
    have hu : u = false := by rw [← HU.out]; exact underP_none1 HSA.out
    cases hsb : splitP b with
    | none =>
      rw [hsb] at ho2
      have he : e = _ := ho2
      subst he
      clear hb2 hsb ho2
      go_wp2_with fail
      go_ret
      exact ⟨by rw [hu]; rfl, HB2.out⟩
    | some y =>
      rw [hsb] at ho2
      obtain ⟨a2, c2, rfl, hc2, ht2⟩ := ho2
      clear hb2 hsb hc2 ht2
      go_wp2_with fail
      go_ret
      exact ⟨by rw [hu]; rfl, HB2.out⟩
  | some x =>
    rw [hsa] at ho1
    obtain ⟨a1, c1, rfl, hc1, ht1⟩ := ho1
    have HSA := hid hsa
    have HT1 := hid ht1
    have hx8 : x.length ≤ 8 := (splitP_some hsa).2.1
    obtain ⟨n, hn⟩ : ∃ n, x.length = n := ⟨_, rfl⟩
    have HN := hid hn
    rw [hn] at hc1 hx8 ⊢
    clear hb1 hsa ht1 hn
    go_wp2_with fail
    refine k2.out.mono ?_
    rintro e w2 ⟨ho2, hb2⟩
    have HB2 := hid (HB1.out.trans (hb2.mono HB1.out.size))
    have HT1b := hid (HT1.out.below hb2)
    cases hsb : splitP b with
    | none =>
      rw [hsb] at ho2
      have he : e = _ := ho2
      subst he
      have hu : u = false := by rw [← HU.out]; exact underP_none2 hsb
      clear hb2 hsb ho2
      go_wp2_with fail
      go_ret
      exact ⟨by rw [hu]; rfl, HB2.out⟩
    | some y =>
      rw [hsb] at ho2
      obtain ⟨a2, c2, rfl, hc2, ht2⟩ := ho2
      have hu := underP_some HSA.out hsb
      rw [HU.out, HN.out] at hu
      have hy8 : y.length ≤ 8 := (splitP_some hsb).2.1
      obtain ⟨m, hm⟩ : ∃ m, y.length = m := ⟨_, rfl⟩
      rw [hm] at hu hc2 hy8 ⊢
      have HMY := hid hm
      have HT2 := hid ht2
      have HUU := hid hu
      clear hb2 hsb ht2 hm hu
      by_cases hle : n ≤ m
      · have g1 : (n : Int) ≤ (m : Int) := by omega
        have hu : u = false := by rw [HUU.out]; simp; omega
        clear hle
        go_wp2_with fail
        go_ret
        exact ⟨by rw [hu]; rfl, HB2.out⟩
      · have g1 : ¬ (n : Int) ≤ (m : Int) := by omega
        obtain ⟨b1, o1, rfl, hb1, hcell⟩ := HT1b.out.at_ (by intro e; have := HN.out; rw [e] at this; simp at this; omega)
        have hu : u = (x.take m == y) := by
          rw [HUU.out]
          have : decide (m < n) = true := decide_eq_true (by omega)
          rw [this, Bool.true_and]
        have heq := fun C => equal_any w2 b1 o1 C a2 c2 x y m HMY.out (by have := HN.out; omega) hcell HT2.out (by omega)
        rw [← hu] at heq
        have HEQ := hid heq
        have hmc : m ≤ c1 := by omega
        clear hcell hb1 hu heq hle
        go_wp2_with fail
        refine (HEQ.out _).mono ?_
        rintro e w3 ⟨rfl, hb3⟩
        have HB3 := hid (HB2.out.trans (hb3.mono HB2.out.size))
        clear hb3
        go_wp2_with fail
        go_ret
        exact ⟨rfl, HB3.out⟩
end Go.Proofs.YtllgdfdiigjecaaDoor
