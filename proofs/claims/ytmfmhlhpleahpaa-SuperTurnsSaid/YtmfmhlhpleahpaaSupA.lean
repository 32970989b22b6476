/- What the program's super answers: fits, isSlot, May, and the statements' own Made. No condition but that lists are not longer than a thousand million. -/
import Derived.Test.YtmfmhlhpleahpaaSup
import Derived.Test.YtmfmhlhpleahpaaMore
import Derived.Test.YtmfmhlhpleahpaaRefs
import Derived.BigQuiet
namespace Go.Proofs.Ytmfmhlhpleahpaa
open Go.RowKit
/-- The whole numbers l lie where the slice that begins at a leads. -/
def IRow (w : World) (a : Option Addr) (l : List Int) : Prop :=
  l = [] ∨ ∃ b off, a = some ⟨b, off, none⟩ ∧ b < w.heap.size ∧ ∀ i, i < l.length → w.cell? ⟨b, off + i, none⟩ = some (.int .i64 (l.getD i 0))
theorem IRow.below {w w' : World} {a : Option Addr} {l : List Int} (h : IRow w a l) (hb : Below w.heap.size w w') : IRow w' a l := by
  rcases h with h2 | ⟨b, off, ha, hlt, hc⟩
  · exact .inl h2
  · exact .inr ⟨b, off, ha, Nat.lt_of_lt_of_le hlt hb.size, fun i hi => (hb.cell (p := ⟨b, off + i, none⟩) hlt).trans (hc i hi)⟩
theorem IRow.only {w w' : World} {q : Nat} {a : Option Addr} {l : List Int} (h : IRow w a l) (hb : Below q w w') (hq : ∀ v, a = some v → v.block < q) : IRow w' a l := by
  rcases h with h2 | ⟨b, off, ha, hlt, hc⟩
  · exact .inl h2
  · exact .inr ⟨b, off, ha, Nat.lt_of_lt_of_le hlt hb.size, fun i hi => (hb.cell (p := ⟨b, off + i, none⟩) (hq ⟨b, off, none⟩ ha)).trans (hc i hi)⟩
theorem IRow.nil (w : World) (a : Option Addr) : IRow w a [] := .inl rfl
theorem fits_any (z : Int) (w : World) : Calls Try.prog 25 #[.int .i64 z] w fun e w' => e = .returned (.bool (fits z)) ∧ w' = w := by
  have HF : Hid (fits z = (decide (0 ≤ z) && decide (z ≤ 2147483647))) := rfl
  by_cases h1 : 0 ≤ z
  · by_cases h2 : z ≤ 2147483647
    · have HE : Hid (fits z = true) := by show _ = _; rw [HF.out, decide_eq_true h1, decide_eq_true h2]; rfl
      go_enter Try.func25, Try.ntmps25
      go_wp2
      go_ret
      exact ⟨by rw [HE.out]; simp, rfl⟩
    · have HE : Hid (fits z = false) := by show _ = _; rw [HF.out, decide_eq_true h1, decide_eq_false h2]; rfl
      go_enter Try.func25, Try.ntmps25
      go_wp2
      go_ret
      exact ⟨by rw [HE.out]; simp, rfl⟩
  · have HE : Hid (fits z = false) := by show _ = _; rw [HF.out, decide_eq_false h1]; rfl
    go_enter Try.func25, Try.ntmps25
    go_wp2
    go_ret
    exact ⟨by rw [HE.out]; rfl, rfl⟩
def isSlot (z : Int) : Bool := decide (z = 0) || decide (z = 1)
theorem isSlot_any (z : Int) (w : World) : Calls Try.prog 35 #[.int .i64 z] w fun e w' => e = .returned (.bool (isSlot z)) ∧ w' = w := by
  unfold isSlot
  by_cases h1 : z = 0
  · subst h1
    go_enter Try.func35, Try.ntmps35
    go_wp2
    go_ret
    simp
  · by_cases h2 : z = 1
    · subst h2
      go_enter Try.func35, Try.ntmps35
      go_wp2
      go_ret
      simp
    · have e1 : (z == 0) = false := by simp [h1]
      have e2 : (z == 1) = false := by simp [h2]
      go_enter Try.func35, Try.ntmps35
      go_wp2
      go_ret
      simp [h1, h2]
def lgV (a : Option Addr) (n c : Nat) (l : Int) (k : Nat) : Array Value := #[.slice a n c, .int .i64 l, .int .u32 (k : Int)]
theorem made1_any (w : World) (a : Option Addr) (n c : Nat) (l : Int) (k : Nat) : Calls Try.prog 26 #[.agg #[.slice a n c, .int .i64 l, .int .u32 (k : Int)]] w fun e w' => e = .returned (.agg #[.slice a n c, .int .i64 l, .int .u32 (k : Int)]) ∧ Below w.heap.size w w' := by
  go_enter Try.func26, Try.ntmps26
  go_wp2
  refine bodyPost_ret (v := .agg #[.slice a n c, .int .i64 l, .int .u32 (k : Int)]) (by simp [results, Try.results26, go_sem]) rfl ⟨rfl, ?_⟩
  exact ((Below.refl _ _).alloc (Nat.le_refl _) _).alloc (by simp) _
/-- A slot's value. -/
def spV (nb bt : Int) (aj : Option Addr) (nj cj : Nat) (lj : Int) (kj : Nat) (ac : Option Addr) (nc cc : Nat) (lc : Int) (kc : Nat) : Array Value :=
  #[.int .i64 nb, .int .i64 bt, .slice aj nj cj, .int .i64 lj, .int .u32 (kj : Int), .slice ac nc cc, .int .i64 lc, .int .u32 (kc : Int)]
theorem size32 : (Try.prog.info? 32).map (·.size) = some 8 := by kernel_rfl
theorem cells8 {W : World} {q : Nat} {v0 v1 v2 v3 v4 v5 v6 v7 : Value} {t : TypeId} (h : W.heap[q]? = some (.cells #[v0, v1, v2, v3, v4, v5, v6, v7] t (0, 0))) : W.cell? ⟨q, 0, none⟩ = some v0 ∧ W.cell? ⟨q, 1, none⟩ = some v1 ∧ W.cell? ⟨q, 2, none⟩ = some v2 ∧ W.cell? ⟨q, 3, none⟩ = some v3 ∧ W.cell? ⟨q, 4, none⟩ = some v4 ∧ W.cell? ⟨q, 5, none⟩ = some v5 ∧ W.cell? ⟨q, 6, none⟩ = some v6 ∧ W.cell? ⟨q, 7, none⟩ = some v7 :=
  ⟨by rw [cell_of_row W q 0 _ t (0, 0) h]; rfl, by rw [cell_of_row W q 1 _ t (0, 0) h]; rfl, by rw [cell_of_row W q 2 _ t (0, 0) h]; rfl, by rw [cell_of_row W q 3 _ t (0, 0) h]; rfl, by rw [cell_of_row W q 4 _ t (0, 0) h]; rfl, by rw [cell_of_row W q 5 _ t (0, 0) h]; rfl, by rw [cell_of_row W q 6 _ t (0, 0) h]; rfl, by rw [cell_of_row W q 7 _ t (0, 0) h]; rfl⟩
set_option maxRecDepth 10000 in
set_option maxHeartbeats 2000000 in
theorem made_any (w : World) (nb bt : Int) (aj : Option Addr) (nj cj : Nat) (lj : Int) (kj : Nat) (ac : Option Addr) (nc cc : Nat) (lc : Int) (kc : Nat) :
    Calls Try.prog 11 #[.agg #[.int .i64 nb, .int .i64 bt, .slice aj nj cj, .int .i64 lj, .int .u32 (kj : Int), .slice ac nc cc, .int .i64 lc, .int .u32 (kc : Int)]] w
      fun e w' => e = .returned (.agg (spV nb bt aj nj cj lj kj ac nc cc lc kc)) ∧ Below w.heap.size w w' := by
  have hk := made1_any
  go_enter Try.func11, Try.ntmps11
  go_wp2_with fail
  obtain ⟨V0, hV0⟩ : ∃ V0, V0 = (w.alloc (.cells #[.int .i64 nb, .int .i64 bt, .slice aj nj cj, .int .i64 lj, .int .u32 (kj : Int), .slice ac nc cc, .int .i64 lc, .int .u32 (kc : Int)] 27)).alloc (.cells #[.int .i64 0, .int .i64 0, .slice none 0 0, .int .i64 0, .int .u32 0, .slice none 0 0, .int .i64 0, .int .u32 0] 32) := ⟨_, rfl⟩
  rw [← hV0]
  have hq : V0.heap[w.heap.size]? = some (.cells #[.int .i64 nb, .int .i64 bt, .slice aj nj cj, .int .i64 lj, .int .u32 (kj : Int), .slice ac nc cc, .int .i64 lc, .int .u32 (kc : Int)] 27 (0, 0)) := by rw [hV0]; exact heap_alloc2_old _ _ _
  have hr : V0.heap[w.heap.size + 1]? = some (.cells #[.int .i64 0, .int .i64 0, .slice none 0 0, .int .i64 0, .int .u32 0, .slice none 0 0, .int .i64 0, .int .u32 0] 32 (0, 0)) := by rw [hV0]; exact heap_alloc2_new _ _ _
  have HBV : Hid (Below w.heap.size w V0) := by rw [hV0]; exact ((Below.refl _ _).alloc (Nat.le_refl _) _).alloc (by simp) _
  have HSZ : Hid (V0.heap.size = w.heap.size + 2) := by show _ = _; rw [hV0]; simp
  clear hV0
  obtain ⟨q, hwq⟩ : ∃ q, w.heap.size = q := ⟨_, rfl⟩
  rw [hwq] at hq hr HSZ ⊢
  have HWQ := hid hwq
  have HQ := hid hq
  have HR := hid hr
  clear hq hr hwq
  refine wp_region_held_drew (S := fun W => W.cell? ⟨q, 0, none⟩ = some (.int .i64 nb) ∧ W.cell? ⟨q, 1, none⟩ = some (.int .i64 bt) ∧ W.cell? ⟨q, 2, none⟩ = some (.slice aj nj cj) ∧ W.cell? ⟨q, 3, none⟩ = some (.int .i64 lj) ∧ W.cell? ⟨q, 4, none⟩ = some (.int .u32 (kj : Int)) ∧ W.cell? ⟨q, 5, none⟩ = some (.slice ac nc cc) ∧ W.cell? ⟨q, 6, none⟩ = some (.int .i64 lc) ∧ W.cell? ⟨q, 7, none⟩ = some (.int .u32 (kc : Int))) (by kernel_rfl) (cells8 (W := V0.drew) HQ.out) (fun hHeld => ?_)
  refine take_op 0 (some 4) (.pointer (some ⟨q, 0, none⟩)) rfl rfl (by kernel_rfl) (by kernel_rfl) (by kernel_rfl) (fun _ _ _ h => h) (by rfl) hHeld (fun W hW => ?_) ?_
  · obtain ⟨h0, h1, h2, h3, h4, h5, h6, h7⟩ := hW
    clear hHeld
    go_simp
  simp only [Act.put, List.setIfInBounds_toArray, List.set_cons_zero, List.set_cons_succ]
  refine take_op 1 (some 5) (.int .i64 nb) rfl rfl (by kernel_rfl) (by kernel_rfl) (by kernel_rfl) (fun _ _ _ h => h) (by rfl) hHeld (fun W hW => ?_) ?_
  · obtain ⟨h0, h1, h2, h3, h4, h5, h6, h7⟩ := hW
    clear hHeld
    go_simp
  simp only [Act.put, List.setIfInBounds_toArray, List.set_cons_zero, List.set_cons_succ]
  refine take_op 2 (some 6) (.pointer (some ⟨q, 1, none⟩)) rfl rfl (by kernel_rfl) (by kernel_rfl) (by kernel_rfl) (fun _ _ _ h => h) (by rfl) hHeld (fun W hW => ?_) ?_
  · obtain ⟨h0, h1, h2, h3, h4, h5, h6, h7⟩ := hW
    clear hHeld
    go_simp
  simp only [Act.put, List.setIfInBounds_toArray, List.set_cons_zero, List.set_cons_succ]
  refine take_op 3 (some 7) (.int .i64 bt) rfl rfl (by kernel_rfl) (by kernel_rfl) (by kernel_rfl) (fun _ _ _ h => h) (by rfl) hHeld (fun W hW => ?_) ?_
  · obtain ⟨h0, h1, h2, h3, h4, h5, h6, h7⟩ := hW
    clear hHeld
    go_simp
  simp only [Act.put, List.setIfInBounds_toArray, List.set_cons_zero, List.set_cons_succ]
  refine take_op 4 (some 8) (.func (.func 26) #[] #[]) rfl rfl (by kernel_rfl) (by kernel_rfl) (by kernel_rfl) (fun _ _ _ h => h) (by rfl) hHeld (fun W hW => ?_) ?_
  · obtain ⟨h0, h1, h2, h3, h4, h5, h6, h7⟩ := hW
    clear hHeld
    go_simp
  simp only [Act.put, List.setIfInBounds_toArray, List.set_cons_zero, List.set_cons_succ]
  refine take_op 5 (some 9) (.pointer (some ⟨q, 2, none⟩)) rfl rfl (by kernel_rfl) (by kernel_rfl) (by kernel_rfl) (fun _ _ _ h => h) (by rfl) hHeld (fun W hW => ?_) ?_
  · obtain ⟨h0, h1, h2, h3, h4, h5, h6, h7⟩ := hW
    clear hHeld
    go_simp
  simp only [Act.put, List.setIfInBounds_toArray, List.set_cons_zero, List.set_cons_succ]
  refine take_op 6 (some 10) (.agg #[.slice aj nj cj, .int .i64 lj, .int .u32 (kj : Int)]) rfl rfl (by kernel_rfl) (by kernel_rfl) (by kernel_rfl) (fun _ _ _ h => h) (by rfl) hHeld (fun W hW => ?_) ?_
  · obtain ⟨h0, h1, h2, h3, h4, h5, h6, h7⟩ := hW
    clear hHeld
    go_simp
  simp only [Act.put, List.setIfInBounds_toArray, List.set_cons_zero, List.set_cons_succ]
  refine take_op 8 (some 12) (.func (.func 26) #[] #[]) rfl rfl (by kernel_rfl) (by kernel_rfl) (by kernel_rfl) (fun _ _ _ h => h) (by rfl) hHeld (fun W hW => ?_) ?_
  · obtain ⟨h0, h1, h2, h3, h4, h5, h6, h7⟩ := hW
    clear hHeld
    go_simp
  simp only [Act.put, List.setIfInBounds_toArray, List.set_cons_zero, List.set_cons_succ]
  refine take_op 9 (some 13) (.pointer (some ⟨q, 5, none⟩)) rfl rfl (by kernel_rfl) (by kernel_rfl) (by kernel_rfl) (fun _ _ _ h => h) (by rfl) hHeld (fun W hW => ?_) ?_
  · obtain ⟨h0, h1, h2, h3, h4, h5, h6, h7⟩ := hW
    clear hHeld
    go_simp
  simp only [Act.put, List.setIfInBounds_toArray, List.set_cons_zero, List.set_cons_succ]
  refine take_op 10 (some 14) (.agg #[.slice ac nc cc, .int .i64 lc, .int .u32 (kc : Int)]) rfl rfl (by kernel_rfl) (by kernel_rfl) (by kernel_rfl) (fun _ _ _ h => h) (by rfl) hHeld (fun W hW => ?_) ?_
  · obtain ⟨h0, h1, h2, h3, h4, h5, h6, h7⟩ := hW
    clear hHeld
    go_simp
  simp only [Act.put, List.setIfInBounds_toArray, List.set_cons_zero, List.set_cons_succ]
  refine wpAnyH_ready (rs := [7]) (by kernel_rfl) (by simp) (AllReadyH.cons rfl (fun K hK => ?_) AllReadyH.nil)
  have HK7 := hid hK
  clear hK hHeld
  go_simp
  refine (hk _ aj nj cj lj kj).mono ?_
  rintro e w5 ⟨rfl, hb5⟩
  have HB5 : Hid (Below V0.heap.size V0 w5) := ⟨hb5.os, hb5.tape, hb5.output, hb5.size, hb5.block⟩
  refine HK7.out.out _ _ (cells8 ((HB5.out.block q (by have := HSZ.out; omega)).trans HQ.out)) (fun hHeld => ?_)
  clear hb5 HK7
  refine wpAnyH_ready (rs := [11]) (by kernel_rfl) (by simp) (AllReadyH.cons rfl (fun K hK => ?_) AllReadyH.nil)
  have HK11 := hid hK
  clear hK hHeld
  go_simp
  refine (hk _ ac nc cc lc kc).mono ?_
  rintro e w6 ⟨rfl, hb6⟩
  have HB6 : Hid (Below V0.heap.size V0 w6) := HB5.out.trans (hb6.mono HB5.out.size)
  refine HK11.out.out _ _ (cells8 ((HB6.out.block q (by have := HSZ.out; omega)).trans HQ.out)) (fun hHeld => ?_)
  clear hb6 HK11 HB5
  refine take_op 12 (some 16) (.agg #[.int .i64 nb, .int .i64 bt, .slice aj nj cj, .int .i64 lj, .int .u32 (kj : Int), .slice ac nc cc, .int .i64 lc, .int .u32 (kc : Int)]) rfl rfl (by kernel_rfl) (by kernel_rfl) (by kernel_rfl) (fun _ _ _ h => h) (by rfl) hHeld (fun W hW => ?_) ?_
  · obtain ⟨h0, h1, h2, h3, h4, h5, h6, h7⟩ := hW
    clear hHeld
    go_simp
  simp only [Act.put, List.setIfInBounds_toArray, List.set_cons_zero, List.set_cons_succ]
  have hr6 := (HB6.out.block (q + 1) (by have := HSZ.out; omega)).trans HR.out
  have hst := run_storeAt_row w6 (q + 1) 0 32 32 _ [.int .i64 nb, .int .i64 bt, .slice aj nj cj, .int .i64 lj, .int .u32 (kj : Int), .slice ac nc cc, .int .i64 lc, .int .u32 (kc : Int)] hr6 size32 (by simp) (by intro v hv; simp at hv; rcases hv with rfl | rfl | rfl | rfl | rfl | rfl | rfl | rfl <;> rfl)
  rw [splice_all _ _ (by simp)] at hst
  have hq7 := cells8 (((setRow_other w6 (q + 1) q #[.int .i64 nb, .int .i64 bt, .slice aj nj cj, .int .i64 lj, .int .u32 (kj : Int), .slice ac nc cc, .int .i64 lc, .int .u32 (kc : Int)] (by omega)).trans (HB6.out.block q (by have := HSZ.out; omega))).trans HQ.out)
  refine ready_store 13 none rfl rfl (by kernel_rfl) (by rfl) 32 _ _ rfl _ hst hq7 ?_
  have HR7 := hid (setRow_heap w6 (q + 1) _ #[.int .i64 nb, .int .i64 bt, .slice aj nj cj, .int .i64 lj, .int .u32 (kj : Int), .slice ac nc cc, .int .i64 lc, .int .u32 (kc : Int)] 32 (0, 0) hr6)
  have HB7 : Hid (Below q w (w6.setRow (q + 1) #[.int .i64 nb, .int .i64 bt, .slice aj nj cj, .int .i64 lj, .int .u32 (kj : Int), .slice ac nc cc, .int .i64 lc, .int .u32 (kc : Int)])) := by
    show Below _ _ _
    rw [← HWQ.out]
    refine below_setRow (HBV.out.trans (HB6.out.mono ?_)) ?_ _
    · have := HSZ.out; have := HWQ.out; omega
    · have := HWQ.out; omega
  simp only [Act.put]
  refine wpAnyH_done (by kernel_rfl) ?_ _
  generalize w6.setRow (q + 1) #[.int .i64 nb, .int .i64 bt, .slice aj nj cj, .int .i64 lj, .int .u32 (kj : Int), .slice ac nc cc, .int .i64 lc, .int .u32 (kc : Int)] = w7 at *
  clear hHeld hq7 hst hr6
  go_wp2_with fail
  refine bodyPost_ret (v := .agg #[.int .i64 nb, .int .i64 bt, .slice aj nj cj, .int .i64 lj, .int .u32 (kj : Int), .slice ac nc cc, .int .i64 lc, .int .u32 (kc : Int)]) (results_cell_row (ty := 32) (p := 2) Try.results11 _ _ (q + 1) 32 _ (0, 0) _ rfl HR7.out Try.underlying32 rfl size32) rfl ⟨rfl, HWQ.out ▸ HB7.out⟩
end Go.Proofs.Ytmfmhlhpleahpaa
