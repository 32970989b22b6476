/- SuperTurns: any slot: whether it may be, its bytes; parsed they are the same. No condition. -/
import Derived.Test.YtmfmhlhpleahpaaSupZ
namespace Go.Proofs.Ytmfmhlhpleahpaa
open Go.ChangeShapes Go.WideShapes Go.ChangeAt Go.RowKit Pen
open Crc (four nx)
open scoped Classical
set_option linter.constructorNameAsVariable false
section
variable {P : Program} {ops : Array Oper} {Q : Exit → Act → World → Prop} {md : Region.Mode} {S : World → Prop} {fuel : Nat} {listed : Array Bool} {a : Act} {w : World}
/-- An operation that its guard does not want. -/
theorem take_not (i : Nat) (t : Option Tmp) {oi : Oper} (hi : ops[i]? = some oi) (hd : oi.dst = t) (hs : Region.noSelect ops = true) (hf : Region.free md ops listed i = true) (hr : (Region.ready md ops listed).contains i = true)
    (hQ : ∀ c a w, Q (.panic c) (a.put oi.dst undef) w → Q (.panic c) a w) (hw : Region.wanted oi (yielded ops a.tmps) = false) (hS : S w)
    (h : wpAnyH P md ops Q S fuel (listed.setIfInBounds i true) (a.put t undef) w) : wpAnyH P md ops Q S (fuel + 1) listed a w := by
  subst hd
  exact wpAnyH_take hi hs hf hr hQ (.inr ⟨hw, rfl⟩) hS h
theorem ready_not (i : Nat) (t : Option Tmp) {o : Oper} (ho : ops[i]? = some o) (hd : o.dst = t) (hr : Region.ready md ops listed = [i]) (hw : Region.wanted o (yielded ops a.tmps) = false) (hS : S w)
    (h : wpAnyH P md ops Q S fuel (listed.setIfInBounds i true) (a.put t undef) w) : wpAnyH P md ops Q S (fuel + 1) listed a w := by
  subst hd
  refine wpAnyH_ready hr (by simp) (AllReadyH.cons ho (fun K hK => ?_) AllReadyH.nil)
  rw [if_neg (by rw [hw]; simp)]
  exact hK.out _ _ hS (fun _ => h)
end
theorem refMay_min (s : Sp) (z : Int) : s.refMay (min z 96) = s.may z := by
  unfold Sp.refMay
  cases h : s.may z with
  | true => exact decide_eq_true ⟨by omega, (may_iff s z).1 h⟩
  | false =>
    refine decide_eq_false (fun h2 => ?_)
    rw [(may_iff s z).2 h2.2] at h
    cases h
set_option maxRecDepth 20000 in
set_option maxHeartbeats 8000000 in
theorem superTurns_walk (w : World) (c0 : Array Value) (a : Sp) (h0 : SupIn w (.agg c0) a) (z : Int) :
    Calls Try.prog 3 #[.agg c0, .int .i64 z] w fun e w' => e = .returned (.bool true) ∧ Below w.heap.size w w' := by
  obtain ⟨nb, bt, aj, nj, cj, lj, kj, ac, nc, cc, lc, kc, sj, sc, hv, hs, hj, hnj, hc, hnc, hkj, hkc, hmj, hmc⟩ := h0
  obtain rfl : c0 = #[.int .i64 nb, .int .i64 bt, .slice aj nj cj, .int .i64 lj, .int .u32 (kj : Int), .slice ac nc cc, .int .i64 lc, .int .u32 (kc : Int)] := by simpa using hv
  clear hv
  obtain ⟨w2, hw2⟩ : ∃ w2, w2 = w.alloc (.cells #[.int .i64 nb, .int .i64 bt, .slice aj nj cj, .int .i64 lj, .int .u32 (kj : Int), .slice ac nc cc, .int .i64 lc, .int .u32 (kc : Int)] 27) := ⟨_, rfl⟩
  have hb2 : Below w.heap.size w w2 := by rw [hw2]; exact (Below.refl _ _).alloc (Nat.le_refl _) _
  have hq2 : w2.heap[w.heap.size]? = some (.cells #[.int .i64 nb, .int .i64 bt, .slice aj nj cj, .int .i64 lj, .int .u32 (kj : Int), .slice ac nc cc, .int .i64 lc, .int .u32 (kc : Int)] 27 (0, 0)) := by rw [hw2]; exact heap_alloc_new _ _
  have HS := hid hs
  have HW2 := hid hw2
  have HB2 := hid hb2
  have HQ2 := hid hq2
  have HA := hid (And.intro hj (And.intro hnj (And.intro hc (And.intro hnc (And.intro hkj hkc)))))
  clear hw2 hb2 hq2 hj hnj hc hnc hkj hkc hmj hmc hs
  obtain ⟨K, hK⟩ : ∃ K : Int, K = min z 96 := ⟨_, rfl⟩
  have hMn : (if (96 : Int) < z then 96 else z) = K := by rw [hK]; split <;> omega
  have HMZ := hid (refMay_min a z)
  rw [← hK] at HMZ
  clear hK
  go_enter Try.func3, Try.ntmps3
  go_wp2_with fail
  rw [← HW2.out]
  clear HW2
  refine (awake_any _).mono ?_
  rintro e w3 ⟨rfl, hb3⟩
  have HB3 := hid (HB2.out.trans (hb3.mono HB2.out.size))
  have HQ3 := hid ((hb3.block _ (Array.getElem?_eq_some_iff.1 HQ2.out).1).trans HQ2.out)
  obtain ⟨q, hwq⟩ : ∃ q, w.heap.size = q := ⟨_, rfl⟩
  rw [hwq] at HQ3 ⊢
  have HWQ := hid hwq
  clear hb3 HB2 HQ2 hwq
  obtain ⟨e0, e1, e2, e3, e4, e5, e6, e7⟩ := cells8 HQ3.out
  by_cases l1 : 300 < nj
  · have l1' : (300 : Int) < (nj : Int) := by omega
    go_wp2_with fail
    go_ret
    exact ⟨rfl, HB3.out⟩
  have l1' : ¬ (300 : Int) < (nj : Int) := by omega
  by_cases l2 : 300 < nc
  · have l2' : (300 : Int) < (nc : Int) := by omega
    go_wp2_with fail
    go_ret
    exact ⟨rfl, HB3.out⟩
  have l2' : ¬ (300 : Int) < (nc : Int) := by omega
  have HLL := hid (And.intro l1 l2)
  clear l1 l2
  have hMY := fun W (hW : Below w.heap.size w W) => may_any W nb bt aj nj cj lj kj ac nc cc lc kc sj sc (HA.out.1.below hW) HA.out.2.1 (by have := HLL.out; omega) (HA.out.2.2.1.below hW) HA.out.2.2.2.1 (by have := HLL.out; omega) z
  have hRK := fun W (hW : Below w.heap.size w W) => refMay_any W nb bt aj nj cj lj kj ac nc cc lc kc sj sc (HA.out.1.below hW) HA.out.2.1 (HA.out.2.2.1.below hW) HA.out.2.2.2.1 (by have := HLL.out; omega) K a HS.out
  have hR9 := fun W (hW : Below w.heap.size w W) => refMay_any W nb bt aj nj cj lj kj ac nc cc lc kc sj sc (HA.out.1.below hW) HA.out.2.1 (HA.out.2.2.1.below hW) HA.out.2.2.2.1 (by have := HLL.out; omega) 96 a HS.out
  rw [← HS.out] at hMY
  rw [HMZ.out] at hRK
  go_wp2_with fail
  clear l1' l2' hMn e0 e1 e2 e3 e4 e5 e6 e7
  refine wp_region_held_drew (S := fun W => W.heap[q]? = some (.cells #[.int .i64 nb, .int .i64 bt, .slice aj nj cj, .int .i64 lj, .int .u32 (kj : Int), .slice ac nc cc, .int .i64 lc, .int .u32 (kc : Int)] 27 (0, 0))) (by kernel_rfl) (show w3.drew.heap[q]? = _ from HQ3.out) (fun hHeld => ?_)
  refine take_op 0 (some 27) (.agg #[.int .i64 nb, .int .i64 bt, .slice aj nj cj, .int .i64 lj, .int .u32 (kj : Int), .slice ac nc cc, .int .i64 lc, .int .u32 (kc : Int)]) rfl rfl (by kernel_rfl) (by kernel_rfl) (by kernel_rfl) (fun _ _ _ h => h) (by rfl) hHeld (fun W hW => ?_) ?_
  · obtain ⟨e0, e1, e2, e3, e4, e5, e6, e7⟩ := cells8 hW
    clear hHeld
    go_simp
  simp only [Act.put, List.setIfInBounds_toArray, List.set_cons_zero, List.set_cons_succ]
  refine take_op 2 (some 29) (.int .i64 z) rfl rfl (by kernel_rfl) (by kernel_rfl) (by kernel_rfl) (fun _ _ _ h => h) (by rfl) hHeld (fun W hW => ?_) ?_
  · obtain ⟨e0, e1, e2, e3, e4, e5, e6, e7⟩ := cells8 hW
    clear hHeld
    go_simp
  simp only [Act.put, List.setIfInBounds_toArray, List.set_cons_zero, List.set_cons_succ]
  refine take_op 4 (some 31) (.agg #[.int .i64 nb, .int .i64 bt, .slice aj nj cj, .int .i64 lj, .int .u32 (kj : Int), .slice ac nc cc, .int .i64 lc, .int .u32 (kc : Int)]) rfl rfl (by kernel_rfl) (by kernel_rfl) (by kernel_rfl) (fun _ _ _ h => h) (by rfl) hHeld (fun W hW => ?_) ?_
  · obtain ⟨e0, e1, e2, e3, e4, e5, e6, e7⟩ := cells8 hW
    clear hHeld
    go_simp
  simp only [Act.put, List.setIfInBounds_toArray, List.set_cons_zero, List.set_cons_succ]
  refine take_op 5 (some 32) (.int .i64 K) rfl rfl (by kernel_rfl) (by kernel_rfl) (by kernel_rfl) (fun _ _ _ h => h) (by rfl) hHeld (fun W hW => ?_) ?_
  · obtain ⟨e0, e1, e2, e3, e4, e5, e6, e7⟩ := cells8 hW
    clear hHeld
    go_simp
  simp only [Act.put, List.setIfInBounds_toArray, List.set_cons_zero, List.set_cons_succ]
  have hd3 : Below w3.heap.size w3 w3.drew := ⟨rfl, rfl, rfl, Nat.le_refl _, fun _ _ => rfl⟩
  have HBD : Hid (Below w.heap.size w w3.drew) := HB3.out.trans (hd3.mono HB3.out.size)
  have HQD : Hid (w3.drew.heap[q]? = some (.cells #[.int .i64 nb, .int .i64 bt, .slice aj nj cj, .int .i64 lj, .int .u32 (kj : Int), .slice ac nc cc, .int .i64 lc, .int .u32 (kc : Int)] 27 (0, 0))) := HQ3.out
  have HMYH := hid hMY
  have HRKH := hid hRK
  have HR9H := hid hR9
  clear hd3 HB3 HQ3 hMY hRK hR9
  generalize w3.drew = v3 at *
  refine wpAnyH_ready (rs := [1]) (by kernel_rfl) (by simp) (AllReadyH.cons rfl (fun K hK => ?_) AllReadyH.nil)
  have HK1 := hid hK
  clear hK hHeld
  go_simp
  refine (made_any _ nb bt aj nj cj lj kj ac nc cc lc kc).mono ?_
  rintro e v4 ⟨rfl, hb4⟩
  have HB4 := hid (HBD.out.trans (hb4.mono HBD.out.size))
  have HQ4 := hid (keep5_below hb4 _ _ _ _ HQD.out (by decide))
  clear hb4 HBD HQD
  refine HK1.out.out _ _ HQ4.out (fun hHeld => ?_)
  clear HK1
  unfold spV
  refine wpAnyH_ready (rs := [3]) (by kernel_rfl) (by simp) (AllReadyH.cons rfl (fun K hK => ?_) AllReadyH.nil)
  have HK3 := hid hK
  clear hK hHeld
  go_simp
  refine (HMYH.out _ HB4.out).mono ?_
  rintro e v5 ⟨rfl, hb5⟩
  have HB5 := hid (HB4.out.trans (hb5.mono HB4.out.size))
  have HQ5 := hid (keep5_below hb5 _ _ _ _ HQ4.out (by decide))
  clear hb5 HB4 HQ4
  refine HK3.out.out _ _ HQ5.out (fun hHeld => ?_)
  clear HK3
  refine wpAnyH_ready (rs := [6]) (by kernel_rfl) (by simp) (AllReadyH.cons rfl (fun K hK => ?_) AllReadyH.nil)
  have HK6 := hid hK
  clear hK hHeld
  go_simp
  refine (HRKH.out _ HB5.out).mono ?_
  rintro e v6 ⟨rfl, hb6⟩
  have HB6 := hid (HB5.out.trans (hb6.mono HB5.out.size))
  have HQ6 := hid (keep5_below hb6 _ _ _ _ HQ5.out (by decide))
  clear hb6 HB5 HQ5
  refine HK6.out.out _ _ HQ6.out (fun hHeld => ?_)
  clear HK6
  have hmm : (a.may z != a.may z) = false := by cases a.may z <;> rfl
  refine take_op 7 (some 34) (.bool false) rfl rfl (by kernel_rfl) (by kernel_rfl) (by kernel_rfl) (fun _ _ _ h => h) (by rfl) hHeld (fun W hW => ?_) ?_
  · clear hHeld
    go_simp
  simp only [Act.put, List.setIfInBounds_toArray, List.set_cons_zero, List.set_cons_succ]
  refine wpAnyH_done (by kernel_rfl) ?_ _
  clear hHeld hmm
  obtain ⟨e0, e1, e2, e3, e4, e5, e6, e7⟩ := cells8 HQ6.out
  go_wp2_with fail
  refine (made_any _ nb bt aj nj cj lj kj ac nc cc lc kc).mono ?_
  rintro e v7 ⟨rfl, hb7⟩
  have HB7 := hid (HB6.out.trans (hb7.mono HB6.out.size))
  have HQ7 := hid (keep5_below hb7 _ _ _ _ HQ6.out (by decide))
  clear hb7 HB6 HQ6 e0 e1 e2 e3 e4 e5 e6 e7
  unfold spV
  go_wp2_with fail
  cases hra : a.refMay 96
  · have hno : Sp.may ⟨nb, bt, ⟨sj, lj, kj⟩, ⟨sc, lc, kc⟩⟩ 96 = false := by
      rw [← HS.out]
      cases h : a.may 96
      · rfl
      · rw [(refMay96 a).2 (may_96 h)] at hra; cases hra
    rw [hra] at HR9H
    clear hra
    refine (bytesS_no _ nb bt aj nj cj lj kj ac nc cc lc kc sj sc (HA.out.1.below HB7.out) HA.out.2.1 (by have := HLL.out; omega) (HA.out.2.2.1.below HB7.out) HA.out.2.2.2.1 (by have := HLL.out; omega) hno).mono ?_
    rintro e v8 ⟨rfl, hb8⟩
    have HB8 := hid (HB7.out.trans (hb8.mono HB7.out.size))
    have HQ8 := hid (keep5_below hb8 _ _ _ _ HQ7.out (by decide))
    clear hb8 hno
    obtain ⟨e0, e1, e2, e3, e4, e5, e6, e7⟩ := cells8 HQ8.out
    go_wp2_with fail
    refine (HR9H.out _ HB8.out).mono ?_
    rintro e v9 ⟨rfl, hb9⟩
    have HB9 := hid (HB8.out.trans (hb9.mono HB8.out.size))
    clear hb9
    go_wp2_with fail
    go_ret
    exact ⟨rfl, HB9.out⟩
  have HOA := hid ((refMay96 a).1 hra)
  rw [hra] at HR9H
  clear hra
  have hfew := HOA.out.few
  rw [HS.out] at hfew
  dsimp only at hfew
  have HFW := hid hfew
  clear hfew
  refine (bytesS_any _ nb bt aj nj cj lj kj ac nc cc lc kc sj sc (HA.out.1.below HB7.out) HA.out.2.1 (by have := HLL.out; omega) (HA.out.2.2.1.below HB7.out) HA.out.2.2.2.1 (by have := HLL.out; omega) HA.out.2.2.2.2.1 HA.out.2.2.2.2.2 a HS.out HOA.out).mono ?_
  rintro e v8 ⟨g8, p8, rfl, ho8, hb8⟩
  have HLT := hid (And.intro (bytes_len HOA.out) (bytes_lt HOA.out (by rw [HS.out]; exact HA.out.2.2.2.2.1) (by rw [HS.out]; exact HA.out.2.2.2.2.2)))
  obtain ⟨hcp8, hr8⟩ := row_of_owns' HLT.out.1 ho8 HLT.out.2
  have HR8 := hid hr8
  have HCP := hid hcp8
  have HB8 := hid (HB7.out.trans (hb8.mono HB7.out.size))
  have HQ8 := hid (keep5_below hb8 _ _ _ _ HQ7.out (by decide))
  clear hb8 ho8 hr8 hcp8 HB7 HQ7
  obtain ⟨e0, e1, e2, e3, e4, e5, e6, e7⟩ := cells8 HQ8.out
  go_wp2_with fail
  refine (HR9H.out _ HB8.out).mono ?_
  rintro e v9 ⟨rfl, hb9⟩
  have HB9 := hid (HB8.out.trans (hb9.mono HB8.out.size))
  have HQ9 := hid (keep5_below hb9 _ _ _ _ HQ8.out (by decide))
  have HR9 := hid (HR8.out.below hb9)
  clear hb9 HB8 HQ8 HR8 HR9H e0 e1 e2 e3 e4 e5 e6 e7
  have HPB := hid (parse_bytes HOA.out (by rw [HS.out]; exact HA.out.2.2.2.2.1) (by rw [HS.out]; exact HA.out.2.2.2.2.2) z)
  go_wp2_with fail
  refine (parse_any v9 (some ⟨g8, 0, none⟩) a.bytes 256 p8 HR9.out HLT.out.1 HCP.out z).mono ?_
  rintro e vA ⟨hpar, hbA⟩
  rw [HPB.out] at hpar
  have HBA := hid (HB9.out.trans (hbA.mono HB9.out.size))
  have HQA := hid (keep5_below hbA _ _ _ _ HQ9.out (by decide))
  have HRA := hid (HR9.out.below hbA)
  clear hbA HB9 HQ9 HR9 HPB
  cases hmz : a.may z
  · rw [hmz] at hpar HRKH
    rw [if_neg (by simp)] at hpar
    obtain rfl := hpar
    clear hmz HMYH
    have hbal : Below vA.heap.size vA (vA.alloc (.cells #[.int .i64 0, .int .i64 0, .slice none 0 0, .int .i64 0, .int .u32 0, .slice none 0 0, .int .i64 0, .int .u32 0] 32)) := (Below.refl _ _).alloc (Nat.le_refl _) _
    have HBB := hid (HBA.out.trans (hbal.mono HBA.out.size))
    have HQB := hid (keep5_below hbal _ _ _ _ HQA.out (by decide))
    have HRB := hid (HRA.out.below hbal)
    have HXB : Hid ((vA.alloc (.cells #[.int .i64 0, .int .i64 0, .slice none 0 0, .int .i64 0, .int .u32 0, .slice none 0 0, .int .i64 0, .int .u32 0] 32)).heap[vA.heap.size]? = some (.cells #[.int .i64 0, .int .i64 0, .slice none 0 0, .int .i64 0, .int .u32 0, .slice none 0 0, .int .i64 0, .int .u32 0] 32 (0, 0))) := heap_alloc_new _ _
    clear hbal HBA HQA HRA
    obtain ⟨e0, e1, e2, e3, e4, e5, e6, e7⟩ := cells8 HQB.out
    go_wp2_with fail
    generalize vA.alloc (.cells #[.int .i64 0, .int .i64 0, .slice none 0 0, .int .i64 0, .int .u32 0, .slice none 0 0, .int .i64 0, .int .u32 0] 32) = vB at *
    generalize vA.heap.size = xb at *
    clear e0 e1 e2 e3 e4 e5 e6 e7
    refine (HRKH.out _ HBB.out).mono ?_
    rintro e vC ⟨rfl, hbC⟩
    have HBC := hid (HBB.out.trans (hbC.mono HBB.out.size))
    have hQC := keep5_below hbC _ _ _ _ HQB.out (by decide)
    have hXC := keep5_below hbC _ _ _ _ HXB.out (by decide)
    have hRC := HRB.out.below hbC
    have hqb := fun W (hW : Below vC.heap.size vC W) => cells8 (keep5_below hW _ _ _ _ hQC (by decide))
    have hxb := fun W (hW : Below vC.heap.size vC W) => cells8 (keep5_below hW _ _ _ _ hXC (by decide))
    have hSA : ∀ W, Below vC.heap.size vC W → (convert 35 9 (.slice (some ⟨g8, 0, none⟩) 256 p8)).run Try.prog W = .ok (.string (strOf a.bytes)) W := str_at (cap := p8) hRC HLT.out.1
    have hRef := fun W (hW : Below vC.heap.size vC W) => refBytes_any W nb bt aj nj cj lj kj ac nc cc lc kc sj sc (HA.out.1.below (HBC.out.trans (hW.mono HBC.out.size))) HA.out.2.1 (HA.out.2.2.1.below (HBC.out.trans (hW.mono HBC.out.size))) HA.out.2.2.2.1 HA.out.2.2.2.2.1 HA.out.2.2.2.2.2 a HS.out HOA.out
    have HRef := hid hRef
    have HSR : Hid (∀ (W : World) (g cap : Nat), Row W (some ⟨g, 0, none⟩) a.bytes → (convert 35 9 (.slice (some ⟨g, 0, none⟩) 256 cap)).run Try.prog W = .ok (.string (strOf a.bytes)) W) := fun W g cap h => str_any W _ _ 256 cap HLT.out.1 h
    generalize strOf a.bytes = SA at *
    clear hbC hQC hXC hRC hxb hRef HRKH HBB HQB HRB HXB
    go_wp2_with fail
    refine wp_region_held_drew (S := fun W => Below vC.heap.size vC W) (by kernel_rfl) (show Below _ _ _ from (Below.refl _ _).drew) (fun hHeld => ?_)
    refine take_op 0 (some 60) (.int .i64 0) rfl rfl (by kernel_rfl) (by kernel_rfl) (by kernel_rfl) (fun _ _ _ h => h) (by rfl) hHeld (fun W hW => ?_) ?_
    · clear hHeld
      go_simp
    simp only [Act.put, List.setIfInBounds_toArray, List.set_cons_zero, List.set_cons_succ]
    refine take_op 1 (some 61) (.bool true) rfl rfl (by kernel_rfl) (by kernel_rfl) (by kernel_rfl) (fun _ _ _ h => h) (by rfl) hHeld (fun W hW => ?_) ?_
    · clear hHeld
      go_simp
    simp only [Act.put, List.setIfInBounds_toArray, List.set_cons_zero, List.set_cons_succ]
    refine take_op 2 (some 62) (.bool true) rfl rfl (by kernel_rfl) (by kernel_rfl) (by kernel_rfl) (fun _ _ _ h => h) (by rfl) hHeld (fun W hW => ?_) ?_
    · clear hHeld
      go_simp
    simp only [Act.put, List.setIfInBounds_toArray, List.set_cons_zero, List.set_cons_succ]
    refine take_op 3 (some 63) (.slice (some ⟨g8, 0, none⟩) 256 p8) rfl rfl (by kernel_rfl) (by kernel_rfl) (by kernel_rfl) (fun _ _ _ h => h) (by rfl) hHeld (fun W hW => ?_) ?_
    · clear hHeld
      go_simp
    simp only [Act.put, List.setIfInBounds_toArray, List.set_cons_zero, List.set_cons_succ]
    refine take_op 4 (some 64) (.string SA) rfl rfl (by kernel_rfl) (by kernel_rfl) (by kernel_rfl) (fun _ _ _ h => h) (by rfl) hHeld (fun W hW => ?_) ?_
    · have hsa := hSA W hW
      clear hHeld
      go_simp
    simp only [Act.put, List.setIfInBounds_toArray, List.set_cons_zero, List.set_cons_succ]
    refine take_op 5 (some 65) (.agg #[.int .i64 nb, .int .i64 bt, .slice aj nj cj, .int .i64 lj, .int .u32 (kj : Int), .slice ac nc cc, .int .i64 lc, .int .u32 (kc : Int)]) rfl rfl (by kernel_rfl) (by kernel_rfl) (by kernel_rfl) (fun _ _ _ h => h) (by rfl) hHeld (fun W hW => ?_) ?_
    · obtain ⟨e0, e1, e2, e3, e4, e5, e6, e7⟩ := hqb W hW
      clear hHeld
      go_simp
    simp only [Act.put, List.setIfInBounds_toArray, List.set_cons_zero, List.set_cons_succ]
    refine wpAnyH_ready (rs := [6]) (by kernel_rfl) (by simp) (AllReadyH.cons rfl (fun K hK => ?_) AllReadyH.nil)
    have HK6 := hid hK
    have hbD : Below vC.heap.size vC vC.drew := (Below.refl _ _).drew
    clear hK hHeld
    go_simp
    refine (HRef.out _ hbD).mono ?_
    rintro e wR ⟨gR, cR, rfl, hrR, hbR⟩
    have hSR := HSR.out wR gR cR hrR
    have hbRC : Below vC.heap.size vC wR := hbD.trans (hbR.mono hbD.size)
    refine HK6.out.out _ _ hbRC (fun hHeld => ?_)
    clear HK6 hrR hbR hbD
    refine wpAnyH_ready (rs := [7]) (by kernel_rfl) (by simp) (AllReadyH.cons rfl (fun K hK => ?_) AllReadyH.nil)
    have HK7 := hid hK
    clear hK hHeld
    go_simp
    refine HK7.out.out _ _ hbRC (fun hHeld => ?_)
    clear HK7 hSR
    refine take_op 8 (some 68) (.bool true) rfl rfl (by kernel_rfl) (by kernel_rfl) (by kernel_rfl) (fun _ _ _ h => h) (by rfl) hHeld (fun W hW => ?_) ?_
    · clear hHeld
      go_simp
    simp only [Act.put, List.setIfInBounds_toArray, List.set_cons_zero, List.set_cons_succ]
    refine take_op 9 (some 69) (.bool true) rfl rfl (by kernel_rfl) (by kernel_rfl) (by kernel_rfl) (fun _ _ _ h => h) (by rfl) hHeld (fun W hW => ?_) ?_
    · clear hHeld
      go_simp
    simp only [Act.put, List.setIfInBounds_toArray, List.set_cons_zero, List.set_cons_succ]
    refine take_op 10 (some 70) (.bool true) rfl rfl (by kernel_rfl) (by kernel_rfl) (by kernel_rfl) (fun _ _ _ h => h) (by rfl) hHeld (fun W hW => ?_) ?_
    · clear hHeld
      go_simp
    simp only [Act.put, List.setIfInBounds_toArray, List.set_cons_zero, List.set_cons_succ]
    refine take_op 11 (some 71) (.bool false) rfl rfl (by kernel_rfl) (by kernel_rfl) (by kernel_rfl) (fun _ _ _ h => h) (by rfl) hHeld (fun W hW => ?_) ?_
    · clear hHeld
      go_simp
    simp only [Act.put, List.setIfInBounds_toArray, List.set_cons_zero, List.set_cons_succ]
    refine take_op 12 (some 72) (.bool false) rfl rfl (by kernel_rfl) (by kernel_rfl) (by kernel_rfl) (fun _ _ _ h => h) (by rfl) hHeld (fun W hW => ?_) ?_
    · clear hHeld
      go_simp
    simp only [Act.put, List.setIfInBounds_toArray, List.set_cons_zero, List.set_cons_succ]
    refine take_op 13 (some 73) (.bool true) rfl rfl (by kernel_rfl) (by kernel_rfl) (by kernel_rfl) (fun _ _ _ h => h) (by rfl) hHeld (fun W hW => ?_) ?_
    · clear hHeld
      go_simp
    simp only [Act.put, List.setIfInBounds_toArray, List.set_cons_zero, List.set_cons_succ]
    refine take_op 14 (some 74) (.bool true) rfl rfl (by kernel_rfl) (by kernel_rfl) (by kernel_rfl) (fun _ _ _ h => h) (by rfl) hHeld (fun W hW => ?_) ?_
    · clear hHeld
      go_simp
    simp only [Act.put, List.setIfInBounds_toArray, List.set_cons_zero, List.set_cons_succ]
    refine take_op 15 (some 75) (.bool true) rfl rfl (by kernel_rfl) (by kernel_rfl) (by kernel_rfl) (fun _ _ _ h => h) (by rfl) hHeld (fun W hW => ?_) ?_
    · clear hHeld
      go_simp
    simp only [Act.put, List.setIfInBounds_toArray, List.set_cons_zero, List.set_cons_succ]
    refine take_op 16 (some 76) (.bool false) rfl rfl (by kernel_rfl) (by kernel_rfl) (by kernel_rfl) (fun _ _ _ h => h) (by rfl) hHeld (fun W hW => ?_) ?_
    · clear hHeld
      go_simp
    simp only [Act.put, List.setIfInBounds_toArray, List.set_cons_zero, List.set_cons_succ]
    refine take_op 17 (some 77) (.bool true) rfl rfl (by kernel_rfl) (by kernel_rfl) (by kernel_rfl) (fun _ _ _ h => h) (by rfl) hHeld (fun W hW => ?_) ?_
    · clear hHeld
      go_simp
    simp only [Act.put, List.setIfInBounds_toArray, List.set_cons_zero, List.set_cons_succ]
    refine take_op 18 (some 78) (.bool true) rfl rfl (by kernel_rfl) (by kernel_rfl) (by kernel_rfl) (fun _ _ _ h => h) (by rfl) hHeld (fun W hW => ?_) ?_
    · clear hHeld
      go_simp
    simp only [Act.put, List.setIfInBounds_toArray, List.set_cons_zero, List.set_cons_succ]
    refine take_not 19 (some 79) rfl rfl (by kernel_rfl) (by kernel_rfl) (by kernel_rfl) (fun _ _ _ h => h) (by rfl) hHeld ?_
    simp only [Act.put, List.setIfInBounds_toArray, List.set_cons_zero, List.set_cons_succ]
    refine take_not 20 (some 80) rfl rfl (by kernel_rfl) (by kernel_rfl) (by kernel_rfl) (fun _ _ _ h => h) (by rfl) hHeld ?_
    simp only [Act.put, List.setIfInBounds_toArray, List.set_cons_zero, List.set_cons_succ]
    refine ready_not 21 (some 81) rfl rfl (by kernel_rfl) (by rfl) hbRC ?_
    simp only [Act.put, List.setIfInBounds_toArray, List.set_cons_zero, List.set_cons_succ]
    refine take_op 22 (some 82) (.bool true) rfl rfl (by kernel_rfl) (by kernel_rfl) (by kernel_rfl) (fun _ _ _ h => h) (by rfl) hHeld (fun W hW => ?_) ?_
    · clear hHeld
      go_simp
    simp only [Act.put, List.setIfInBounds_toArray, List.set_cons_zero, List.set_cons_succ]
    refine take_op 23 (some 83) (.bool true) rfl rfl (by kernel_rfl) (by kernel_rfl) (by kernel_rfl) (fun _ _ _ h => h) (by rfl) hHeld (fun W hW => ?_) ?_
    · clear hHeld
      go_simp
    simp only [Act.put, List.setIfInBounds_toArray, List.set_cons_zero, List.set_cons_succ]
    refine take_op 24 (some 4) (.bool true) rfl rfl (by kernel_rfl) (by kernel_rfl) (by kernel_rfl) (fun _ _ _ h => h) (by rfl) hHeld (fun W hW => ?_) ?_
    · clear hHeld
      go_simp
    simp only [Act.put, List.setIfInBounds_toArray, List.set_cons_zero, List.set_cons_succ]
    refine wpAnyH_done (by kernel_rfl) ?_ _
    clear hHeld
    have HBZ := hid (HBC.out.trans (hbRC.mono HBC.out.size))
    go_wp2_with fail
    go_ret
    exact ⟨rfl, HBZ.out⟩
  · rw [hmz] at hpar HRKH
    rw [if_pos rfl] at hpar
    obtain ⟨xj, yj, zj, xc, yc, zc, rfl, h1, h2, h3, h4, -, -⟩ := hpar
    rw [HS.out] at h1 h2 h3 h4
    dsimp only at h1 h2 h3 h4
    have HX := hid (And.intro h1 (And.intro h2 (And.intro h3 h4)))
    rw [HS.out]
    dsimp only
    clear h1 h2 h3 h4 hmz HMYH
    have hbal : Below vA.heap.size vA (vA.alloc (.cells #[.int .i64 nb, .int .i64 bt, .slice xj yj zj, .int .i64 lj, .int .u32 (kj : Int), .slice xc yc zc, .int .i64 lc, .int .u32 (kc : Int)] 32)) := (Below.refl _ _).alloc (Nat.le_refl _) _
    have HBB := hid (HBA.out.trans (hbal.mono HBA.out.size))
    have HQB := hid (keep5_below hbal _ _ _ _ HQA.out (by decide))
    have HRB := hid (HRA.out.below hbal)
    have HXB : Hid ((vA.alloc (.cells #[.int .i64 nb, .int .i64 bt, .slice xj yj zj, .int .i64 lj, .int .u32 (kj : Int), .slice xc yc zc, .int .i64 lc, .int .u32 (kc : Int)] 32)).heap[vA.heap.size]? = some (.cells #[.int .i64 nb, .int .i64 bt, .slice xj yj zj, .int .i64 lj, .int .u32 (kj : Int), .slice xc yc zc, .int .i64 lc, .int .u32 (kc : Int)] 32 (0, 0))) := heap_alloc_new _ _
    have HXJ := hid (HX.out.2.2.1.below hbal)
    have HXC := hid (HX.out.2.2.2.below hbal)
    clear hbal HBA HQA HRA
    obtain ⟨e0, e1, e2, e3, e4, e5, e6, e7⟩ := cells8 HQB.out
    go_wp2_with fail
    generalize vA.alloc (.cells #[.int .i64 nb, .int .i64 bt, .slice xj yj zj, .int .i64 lj, .int .u32 (kj : Int), .slice xc yc zc, .int .i64 lc, .int .u32 (kc : Int)] 32) = vB at *
    generalize vA.heap.size = xb at *
    clear e0 e1 e2 e3 e4 e5 e6 e7
    refine (HRKH.out _ HBB.out).mono ?_
    rintro e vC ⟨rfl, hbC⟩
    have HBC := hid (HBB.out.trans (hbC.mono HBB.out.size))
    have hQC := keep5_below hbC _ _ _ _ HQB.out (by decide)
    have hXC := keep5_below hbC _ _ _ _ HXB.out (by decide)
    have hRC := HRB.out.below hbC
    have HXJC := hid (HXJ.out.below hbC)
    have HXCC := hid (HXC.out.below hbC)
    have hqb := fun W (hW : Below vC.heap.size vC W) => cells8 (keep5_below hW _ _ _ _ hQC (by decide))
    have hxb := fun W (hW : Below vC.heap.size vC W) => cells8 (keep5_below hW _ _ _ _ hXC (by decide))
    have hqb0 : ∀ W, Below vC.heap.size vC W → W.cell? ⟨q, 0, none⟩ = some (.int .i64 nb) := fun W hW => (hqb W hW).1
    have hqb1 : ∀ W, Below vC.heap.size vC W → W.cell? ⟨q, 1, none⟩ = some (.int .i64 bt) := fun W hW => (hqb W hW).2.1
    have hqb2 : ∀ W, Below vC.heap.size vC W → W.cell? ⟨q, 2, none⟩ = some (.slice aj nj cj) := fun W hW => (hqb W hW).2.2.1
    have hqb3 : ∀ W, Below vC.heap.size vC W → W.cell? ⟨q, 3, none⟩ = some (.int .i64 lj) := fun W hW => (hqb W hW).2.2.2.1
    have hqb4 : ∀ W, Below vC.heap.size vC W → W.cell? ⟨q, 4, none⟩ = some (.int .u32 (kj : Int)) := fun W hW => (hqb W hW).2.2.2.2.1
    have hqb5 : ∀ W, Below vC.heap.size vC W → W.cell? ⟨q, 5, none⟩ = some (.slice ac nc cc) := fun W hW => (hqb W hW).2.2.2.2.2.1
    have hqb6 : ∀ W, Below vC.heap.size vC W → W.cell? ⟨q, 6, none⟩ = some (.int .i64 lc) := fun W hW => (hqb W hW).2.2.2.2.2.2.1
    have hqb7 : ∀ W, Below vC.heap.size vC W → W.cell? ⟨q, 7, none⟩ = some (.int .u32 (kc : Int)) := fun W hW => (hqb W hW).2.2.2.2.2.2.2
    have hxb0 : ∀ W, Below vC.heap.size vC W → W.cell? ⟨xb, 0, none⟩ = some (.int .i64 nb) := fun W hW => (hxb W hW).1
    have hxb1 : ∀ W, Below vC.heap.size vC W → W.cell? ⟨xb, 1, none⟩ = some (.int .i64 bt) := fun W hW => (hxb W hW).2.1
    have hxb2 : ∀ W, Below vC.heap.size vC W → W.cell? ⟨xb, 2, none⟩ = some (.slice xj yj zj) := fun W hW => (hxb W hW).2.2.1
    have hxb3 : ∀ W, Below vC.heap.size vC W → W.cell? ⟨xb, 3, none⟩ = some (.int .i64 lj) := fun W hW => (hxb W hW).2.2.2.1
    have hxb4 : ∀ W, Below vC.heap.size vC W → W.cell? ⟨xb, 4, none⟩ = some (.int .u32 (kj : Int)) := fun W hW => (hxb W hW).2.2.2.2.1
    have hxb5 : ∀ W, Below vC.heap.size vC W → W.cell? ⟨xb, 5, none⟩ = some (.slice xc yc zc) := fun W hW => (hxb W hW).2.2.2.2.2.1
    have hxb6 : ∀ W, Below vC.heap.size vC W → W.cell? ⟨xb, 6, none⟩ = some (.int .i64 lc) := fun W hW => (hxb W hW).2.2.2.2.2.2.1
    have hxb7 : ∀ W, Below vC.heap.size vC W → W.cell? ⟨xb, 7, none⟩ = some (.int .u32 (kc : Int)) := fun W hW => (hxb W hW).2.2.2.2.2.2.2
    have hSA : ∀ W, Below vC.heap.size vC W → (convert 35 9 (.slice (some ⟨g8, 0, none⟩) 256 p8)).run Try.prog W = .ok (.string (strOf a.bytes)) W := str_at (cap := p8) hRC HLT.out.1
    have hRef := fun W (hW : Below vC.heap.size vC W) => refBytes_any W nb bt aj nj cj lj kj ac nc cc lc kc sj sc (HA.out.1.below (HBC.out.trans (hW.mono HBC.out.size))) HA.out.2.1 (HA.out.2.2.1.below (HBC.out.trans (hW.mono HBC.out.size))) HA.out.2.2.2.1 HA.out.2.2.2.2.1 HA.out.2.2.2.2.2 a HS.out HOA.out
    have HRef := hid hRef
    have HSR : Hid (∀ (W : World) (g cap : Nat), Row W (some ⟨g, 0, none⟩) a.bytes → (convert 35 9 (.slice (some ⟨g, 0, none⟩) 256 cap)).run Try.prog W = .ok (.string (strOf a.bytes)) W) := fun W g cap h => str_any W _ _ 256 cap HLT.out.1 h
    have hSm := fun W (hW : Below vC.heap.size vC W) => same_any W nb bt xj yj zj lj kj xc yc zc lc kc sj sc nb bt aj nj cj lj kj ac nc cc lc kc sj sc (HXJC.out.below hW) HX.out.1 (HXCC.out.below hW) HX.out.2.1 (by have := HX.out.1; have := HFW.out; omega) (by have := HX.out.2.1; have := HFW.out; omega) (HA.out.1.below (HBC.out.trans (hW.mono HBC.out.size))) HA.out.2.1 (HA.out.2.2.1.below (HBC.out.trans (hW.mono HBC.out.size))) HA.out.2.2.2.1 (by have := HLL.out; omega) (by have := HLL.out; omega) a a HS.out HS.out
    rw [decide_eq_true rfl] at hSm
    have HSm := hid hSm
    clear hSm
    generalize strOf a.bytes = SA at *
    clear hbC hQC hXC hRC hqb hxb hRef HRKH HBB HQB HRB HXB
    go_wp2_with fail
    go_region_held (fun W => Below vC.heap.size vC W) (first | assumption | (refine Below.drew ?_; exact Below.refl _ _)) (first | (go_at_call 15; refine (HRef.out _ ?_).mono ?_; assumption; rintro e wR ⟨gR, cR, rfl, hrR, hbR⟩; have hSR := HSR.out wR gR cR hrR; clear hrR; have hbR := Below.trans ‹Below vC.heap.size vC _› (hbR.mono (Below.size ‹Below vC.heap.size vC _›))) | (go_at_call 16; refine (HSm.out _ ?_).mono ?_; assumption; rintro e wS ⟨rfl, hbS⟩; have hbS := Below.trans ‹Below vC.heap.size vC _› (hbS.mono (Below.size ‹Below vC.heap.size vC _›))))
    have HBZ := hid (HBC.out.trans (hbS.mono HBC.out.size))
    go_wp2_with fail
    go_ret
    exact ⟨rfl, HBZ.out⟩
theorem superTurns_all (W : World) (c0 : Array Value) (s0 : Sp) (hs0 : SupIn W (.agg c0) s0) (a1 : Int) (_ : (Lit.int .i64 a1).wf = true) :
    Calls Try.prog 3 #[.agg c0, .int .i64 a1] W fun e w' => e = .returned (.bool true) ∧ Below W.heap.size W w' := superTurns_walk W c0 s0 hs0 a1
set_option linter.unusedVariables false
set_option maxRecDepth 100000 in
theorem superTurns_lifted (os : Os) (started : os.Started) (H : Type) (enc : TypeId × Value → H) :
    ReturnsInHanded {} Try.checked os 3 .any (Rows.superTurnsSpec.pre6 enc Try.prog Try.f3 Rows.superTurnsRow.domain false) (Rows.superTurnsSpec.post enc Try.prog Try.f3 false true false false) := by
  refine returnsInHanded_of_change (C := Try.checked) laws_own started (by kernel_rfl) Try.func3
    (ChangeSpec.witness6 (enc := enc) (C := Try.checked) false ⟨#[], #[.agg #[.int .i64 0, .int .i64 0, .slice none 0 0, .int .i64 0, .int .u32 0, .slice none 0 0, .int .i64 0, .int .u32 0], .int .i64 0], []⟩ 8 (by kernel_rfl) (by kernel_rfl) (by kernel_rfl) (by kernel_rfl)) ?_
  intro W base args ds gs before hval0 hW hcnd _
  have hval : ∀ (j : Nat) t v, Try.f3.params[j]? = some t → args[j]? = some v → Value.okWide Try.prog W .any base t v := hval0
  have hW' := hW
  obtain ⟨p, q, hA0, hV, rfl, hfz, hnd⟩ := hW
  have hA : DataW.TrodAll enc Try.prog W 0 (fun _ => true) true Try.f3.params.toList args.toList ds p := hA0
  rw [Try.params3] at hA hval
  obtain ⟨v0, vs0, d0, ds0, p0, q0, hargs, rfl, rfl, h0, r0⟩ := trodAll_cons hA
  obtain ⟨v1, vs1, d1, ds1, p1, q1, rfl, rfl, rfl, h1, r1⟩ := trodAll_cons r0
  obtain ⟨rfl, rfl, rfl⟩ := trodAll_nil r1
  obtain rfl : args = #[v0, v1] := by cases args; simp_all
  obtain ⟨rfl, rfl⟩ := trodVars_none hV
  obtain ⟨c0, rfl, _⟩ := okWide_struct Try.underlying27 (hval 0 27 v0 rfl rfl)
  have k0 := h0
  have lt0 : ∀ x ∈ p0, x.block < W.heap.size := by obtain ⟨m, hm⟩ := k0; exact DataW.trod_lt m _ _ _ hm
  obtain ⟨s0, hs0⟩ : ∃ s, SupIn W (.agg c0) s := by
    obtain ⟨fuel, hf⟩ := h0
    exact sup_of hf
  obtain ⟨a1, rfl, rfl, rfl, w1⟩ := open_int Try.underlying3 (hval 1 3 v1 rfl rfl) h1
  clear hA0 hval0
  refine (superTurns_all W c0 s0 hs0 a1 w1).mono fun e W' ⟨he, bel⟩ => ?_
  subst he
  exact ⟨_, rfl, _, _, _, [], _, [], hW', trodAll_mk1 (shut_bool Try.underlying4 _), (trodAll_cons_mk (Below.trod laws_laid (by kernel_rfl) (of_decide_eq_true (by kernel_rfl)) k0 bel lt0) (trodAll_cons_mk (shut_int Try.underlying3 w1) trodAll_mk0)), rfl, bel.frame _, fun h => by cases h⟩

theorem superTurns_over : Rows.superTurnsRow.holds Try.pinned (OpenSpec.ofChange Rows.superTurnsSpec) :=
  OpenClaim.holds_of_wide 3 Try.f3 rfl rfl rfl rfl rfl rfl rfl ⟨rfl, rfl, rfl, rfl, rfl⟩ rfl rfl rfl rfl rfl (by kernel_rfl) Try.func3 (by kernel_rfl)
    (of_decide_eq_true (by kernel_rfl)) (by unfold Func.isWrapper; first | (rw [if_pos (by decide +kernel)]; kernel_rfl) | (rw [if_neg (by decide +kernel)]; exact ⟨rfl, rfl⟩))
    (fun os started H enc _ => superTurns_lifted os started H enc)
theorem superTurns_holds : Rows.SuperTurnsSaid := superTurns_over
#print axioms superTurns_holds
end Go.Proofs.Ytmfmhlhpleahpaa
