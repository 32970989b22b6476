/- SuperApart: two slots that may be have the same bytes just if they are one. No condition. -/
import Derived.Test.YtmfmhlhpleahpaaSupO
namespace Go.Proofs.Ytmfmhlhpleahpaa
open Go.ChangeShapes Go.WideShapes Go.ChangeAt Go.RowKit Pen
open Crc (four nx)
open scoped Classical
theorem laws_own : ownKnob Try.prog.godebug = none := by kernel_rfl
theorem laws_laid : laidOutB Try.prog = true := by kernel_rfl
theorem bytes_inj {a b : Sp} (ha : a.Ok 96) (hb : b.Ok 96) (h1 : a.j.last < 4294967296) (h2 : a.c.last < 4294967296) (h3 : b.j.last < 4294967296) (h4 : b.c.last < 4294967296) : a.bytes = b.bytes ↔ a = b :=
  ⟨fun h => by rw [← heard_bytes ha h1 h2, h, heard_bytes hb h3 h4], fun h => by rw [h]⟩
theorem refMay96 (s : Sp) : s.refMay 96 = true ↔ s.Ok 96 := by
  unfold Sp.refMay
  rw [decide_eq_true_eq]
  exact ⟨fun h => h.2, fun h => ⟨by decide, h⟩⟩
set_option maxRecDepth 20000 in
set_option maxHeartbeats 8000000 in
theorem superApart_walk (w : World) (c0 : Array Value) (a : Sp) (h0 : SupIn w (.agg c0) a) (c1 : Array Value) (b : Sp) (h1 : SupIn w (.agg c1) b) :
    Calls Try.prog 8 #[.agg c0, .agg c1] w fun e w' => e = .returned (.bool true) ∧ Below w.heap.size w w' := by
  obtain ⟨nb, bt, aj, nj, cj, lj, kj, ac, nc, cc, lc, kc, sj, sc, hv, hs, hj, hnj, hc, hnc, hkj, hkc, hmj, hmc⟩ := h0
  obtain rfl : c0 = #[.int .i64 nb, .int .i64 bt, .slice aj nj cj, .int .i64 lj, .int .u32 (kj : Int), .slice ac nc cc, .int .i64 lc, .int .u32 (kc : Int)] := by simpa using hv
  clear hv
  obtain ⟨nb', bt', aj', nj', cj', lj', kj', ac', nc', cc', lc', kc', sj', sc', hv', hs', hj', hnj', hc', hnc', hkj', hkc', hmj', hmc'⟩ := h1
  obtain rfl : c1 = #[.int .i64 nb', .int .i64 bt', .slice aj' nj' cj', .int .i64 lj', .int .u32 (kj' : Int), .slice ac' nc' cc', .int .i64 lc', .int .u32 (kc' : Int)] := by simpa using hv'
  clear hv'
  obtain ⟨w2, hw2⟩ : ∃ w2, w2 = (w.alloc (.cells #[.int .i64 nb, .int .i64 bt, .slice aj nj cj, .int .i64 lj, .int .u32 (kj : Int), .slice ac nc cc, .int .i64 lc, .int .u32 (kc : Int)] 27)).alloc (.cells #[.int .i64 nb', .int .i64 bt', .slice aj' nj' cj', .int .i64 lj', .int .u32 (kj' : Int), .slice ac' nc' cc', .int .i64 lc', .int .u32 (kc' : Int)] 27) := ⟨_, rfl⟩
  have hb2 : Below w.heap.size w w2 := by rw [hw2]; exact ((Below.refl _ _).alloc (Nat.le_refl _) _).alloc (by simp) _
  have hq2 : w2.heap[w.heap.size]? = some (.cells #[.int .i64 nb, .int .i64 bt, .slice aj nj cj, .int .i64 lj, .int .u32 (kj : Int), .slice ac nc cc, .int .i64 lc, .int .u32 (kc : Int)] 27 (0, 0)) := by rw [hw2]; exact heap_alloc2_old _ _ _
  have hr2 : w2.heap[w.heap.size + 1]? = some (.cells #[.int .i64 nb', .int .i64 bt', .slice aj' nj' cj', .int .i64 lj', .int .u32 (kj' : Int), .slice ac' nc' cc', .int .i64 lc', .int .u32 (kc' : Int)] 27 (0, 0)) := by rw [hw2]; exact heap_alloc2_new _ _ _
  have hz2 : w2.heap.size = w.heap.size + 2 := by rw [hw2]; simp
  have HW2 := hid hw2
  have HB2 := hid hb2
  have HQ2 := hid hq2
  have HR2 := hid hr2
  have HZ2 := hid hz2
  have HA := hid (And.intro hj (And.intro hnj (And.intro hc (And.intro hnc (And.intro hkj hkc)))))
  have HA' := hid (And.intro hj' (And.intro hnj' (And.intro hc' (And.intro hnc' (And.intro hkj' hkc')))))
  have HSA := hid hs
  have HSB := hid hs'
  clear hw2 hb2 hq2 hr2 hz2 hj hnj hc hnc hkj hkc hmj hmc hj' hnj' hc' hnc' hkj' hkc' hmj' hmc' hs hs'
  go_enter Try.func8, Try.ntmps8
  go_wp2_with fail
  rw [← HW2.out]
  clear HW2
  refine (awake_any _).mono ?_
  rintro e w3 ⟨rfl, hb3⟩
  have HB3 := hid (HB2.out.trans (hb3.mono HB2.out.size))
  have HQ3 := hid ((hb3.block _ (by have := HZ2.out; omega)).trans HQ2.out)
  have HR3 := hid ((hb3.block _ (by have := HZ2.out; omega)).trans HR2.out)
  have HL3 : Hid (w.heap.size + 1 < w3.heap.size) := by have := HZ2.out; have := hb3.size; show _ < _; omega
  obtain ⟨q, hwq⟩ : ∃ q, w.heap.size = q := ⟨_, rfl⟩
  rw [hwq] at HQ3 HR3 HL3 ⊢
  have HWQ := hid hwq
  clear hb3 HB2 HQ2 HR2 HZ2 hwq
  obtain ⟨e0, e1, e2, e3, e4, e5, e6, e7⟩ := cells8 HQ3.out
  obtain ⟨f0, f1, f2, f3, f4, f5, f6, f7⟩ := cells8 HR3.out
  by_cases l1 : 96 < nj
  · have l1' : (96 : Int) < (nj : Int) := by omega
    go_wp2_with fail
    go_ret
    exact ⟨rfl, HB3.out⟩
  by_cases l2 : 96 < nc
  · have l2' : (96 : Int) < (nc : Int) := by omega
    have l1' : ¬ (96 : Int) < (nj : Int) := by omega
    go_wp2_with fail
    go_ret
    exact ⟨rfl, HB3.out⟩
  by_cases l3 : 96 < nj'
  · have l2' : ¬ (96 : Int) < (nc : Int) := by omega
    have l1' : ¬ (96 : Int) < (nj : Int) := by omega
    have l3' : (96 : Int) < (nj' : Int) := by omega
    go_wp2_with fail
    go_ret
    exact ⟨rfl, HB3.out⟩
  by_cases l4 : 96 < nc'
  · have l2' : ¬ (96 : Int) < (nc : Int) := by omega
    have l1' : ¬ (96 : Int) < (nj : Int) := by omega
    have l3' : ¬ (96 : Int) < (nj' : Int) := by omega
    have l4' : (96 : Int) < (nc' : Int) := by omega
    go_wp2_with fail
    go_ret
    exact ⟨rfl, HB3.out⟩
  have l2' : ¬ (96 : Int) < (nc : Int) := by omega
  have l1' : ¬ (96 : Int) < (nj : Int) := by omega
  have l3' : ¬ (96 : Int) < (nj' : Int) := by omega
  have l4' : ¬ (96 : Int) < (nc' : Int) := by omega
  have HLL := hid (And.intro l1 (And.intro l2 (And.intro l3 l4)))
  clear l1 l2 l3 l4
  have HMA := fun W (hW : Below w.heap.size w W) => refMay_any W nb bt aj nj cj lj kj ac nc cc lc kc sj sc (HA.out.1.below hW) HA.out.2.1 (HA.out.2.2.1.below hW) HA.out.2.2.2.1 (by have := HLL.out; omega) 96 a HSA.out
  have HMB := fun W (hW : Below w.heap.size w W) => refMay_any W nb' bt' aj' nj' cj' lj' kj' ac' nc' cc' lc' kc' sj' sc' (HA'.out.1.below hW) HA'.out.2.1 (HA'.out.2.2.1.below hW) HA'.out.2.2.2.1 (by have := HLL.out; omega) 96 b HSB.out
  have HMA := hid HMA
  have HMB := hid HMB
  cases hra : a.refMay 96
  · rw [hra] at HMA
    clear hra
    go_wp2_with fail
    refine (HMA.out _ HB3.out).mono ?_
    rintro e w4 ⟨rfl, hb4⟩
    have HB4 := hid (HB3.out.trans (hb4.mono HB3.out.size))
    clear hb4
    go_wp2_with fail
    go_ret
    exact ⟨rfl, HB4.out⟩
  have HOA := hid ((refMay96 a).1 hra)
  rw [hra] at HMA
  clear hra
  cases hrb : b.refMay 96
  · rw [hrb] at HMB
    clear hrb
    go_wp2_with fail
    refine (HMA.out _ HB3.out).mono ?_
    rintro e w4 ⟨rfl, hb4⟩
    have HB4 := hid (HB3.out.trans (hb4.mono HB3.out.size))
    have HR4 := hid ((hb4.block _ (by have := HL3.out; omega)).trans HR3.out)
    clear hb4 f0 f1 f2 f3 f4 f5 f6 f7
    obtain ⟨f0, f1, f2, f3, f4, f5, f6, f7⟩ := cells8 HR4.out
    go_wp2_with fail
    refine (HMB.out _ HB4.out).mono ?_
    rintro e w5 ⟨rfl, hb5⟩
    have HB5 := hid (HB4.out.trans (hb5.mono HB4.out.size))
    clear hb5
    go_wp2_with fail
    go_ret
    exact ⟨rfl, HB5.out⟩
  have HOB := hid ((refMay96 b).1 hrb)
  rw [hrb] at HMB
  clear hrb
  go_wp2_with fail
  refine (HMA.out _ HB3.out).mono ?_
  rintro e w4 ⟨rfl, hb4⟩
  have HB4 := hid (HB3.out.trans (hb4.mono HB3.out.size))
  have HR4 := hid ((hb4.block _ (by have := HL3.out; omega)).trans HR3.out)
  have HQ4 := hid ((hb4.block _ (by have := HL3.out; omega)).trans HQ3.out)
  have HL4 : Hid (q + 1 < w4.heap.size) := by have := HL3.out; have := hb4.size; show _ < _; omega
  clear hb4 e0 e1 e2 e3 e4 e5 e6 e7 f0 f1 f2 f3 f4 f5 f6 f7 HQ3 HR3 HL3 HB3
  obtain ⟨f0, f1, f2, f3, f4, f5, f6, f7⟩ := cells8 HR4.out
  go_wp2_with fail
  refine (HMB.out _ HB4.out).mono ?_
  rintro e w5 ⟨rfl, hb5⟩
  have HB5 := hid (HB4.out.trans (hb5.mono HB4.out.size))
  have HR5 := hid ((hb5.block _ (by have := HL4.out; omega)).trans HR4.out)
  have HQ5 := hid ((hb5.block _ (by have := HL4.out; omega)).trans HQ4.out)
  have HL5 : Hid (q + 1 < w5.heap.size) := by have := HL4.out; have := hb5.size; show _ < _; omega
  clear hb5 f0 f1 f2 f3 f4 f5 f6 f7 HQ4 HR4 HL4 HB4 HMA HMB
  obtain ⟨e0, e1, e2, e3, e4, e5, e6, e7⟩ := cells8 HQ5.out
  go_wp2_with fail
  refine (made_any _ nb bt aj nj cj lj kj ac nc cc lc kc).mono ?_
  rintro e w6 ⟨rfl, hb6⟩
  have HB6 := hid (HB5.out.trans (hb6.mono HB5.out.size))
  have HR6 := hid ((hb6.block _ (by have := HL5.out; omega)).trans HR5.out)
  have HQ6 := hid ((hb6.block _ (by have := HL5.out; omega)).trans HQ5.out)
  have HL6 : Hid (q + 1 < w6.heap.size) := by have := HL5.out; have := hb6.size; show _ < _; omega
  clear hb6 e0 e1 e2 e3 e4 e5 e6 e7 HQ5 HR5 HL5 HB5
  unfold spV
  go_wp2_with fail
  refine (bytesS_any _ nb bt aj nj cj lj kj ac nc cc lc kc sj sc (HA.out.1.below HB6.out) HA.out.2.1 (by have := HLL.out; omega) (HA.out.2.2.1.below HB6.out) HA.out.2.2.2.1 (by have := HLL.out; omega) HA.out.2.2.2.2.1 HA.out.2.2.2.2.2 a HSA.out HOA.out).mono ?_
  rintro e w7 ⟨g7, cap7, rfl, ho7, hb7⟩
  have HLT := hid (And.intro (bytes_len HOA.out) (bytes_lt HOA.out (by rw [HSA.out]; exact HA.out.2.2.2.2.1) (by rw [HSA.out]; exact HA.out.2.2.2.2.2)))
  have HLT' := hid (And.intro (bytes_len HOB.out) (bytes_lt HOB.out (by rw [HSB.out]; exact HA'.out.2.2.2.2.1) (by rw [HSB.out]; exact HA'.out.2.2.2.2.2)))
  obtain ⟨hcp7, hr7⟩ := row_of_owns' HLT.out.1 ho7 HLT.out.2
  have HRW7 := hid hr7
  have HB7 := hid (HB6.out.trans (hb7.mono HB6.out.size))
  have HR7 := hid ((hb7.block _ (by have := HL6.out; omega)).trans HR6.out)
  have HQ7 := hid ((hb7.block _ (by have := HL6.out; omega)).trans HQ6.out)
  have HL7 : Hid (q + 1 < w7.heap.size) := by have := HL6.out; have := hb7.size; show _ < _; omega
  clear hb7 HQ6 HR6 HL6 HB6 ho7 hr7 hcp7
  obtain ⟨f0, f1, f2, f3, f4, f5, f6, f7⟩ := cells8 HR7.out
  go_wp2_with fail
  refine (made_any _ nb' bt' aj' nj' cj' lj' kj' ac' nc' cc' lc' kc').mono ?_
  rintro e w8 ⟨rfl, hb8⟩
  have HB8 := hid (HB7.out.trans (hb8.mono HB7.out.size))
  have HR8 := hid ((hb8.block _ (by have := HL7.out; omega)).trans HR7.out)
  have HQ8 := hid ((hb8.block _ (by have := HL7.out; omega)).trans HQ7.out)
  have HL8 : Hid (q + 1 < w8.heap.size) := by have := HL7.out; have := hb8.size; show _ < _; omega
  have HRW8 := hid (HRW7.out.below hb8)
  clear hb8 f0 f1 f2 f3 f4 f5 f6 f7 HQ7 HR7 HL7 HB7 HRW7
  unfold spV
  go_wp2_with fail
  refine (bytesS_any _ nb' bt' aj' nj' cj' lj' kj' ac' nc' cc' lc' kc' sj' sc' (HA'.out.1.below HB8.out) HA'.out.2.1 (by have := HLL.out; omega) (HA'.out.2.2.1.below HB8.out) HA'.out.2.2.2.1 (by have := HLL.out; omega) HA'.out.2.2.2.2.1 HA'.out.2.2.2.2.2 b HSB.out HOB.out).mono ?_
  rintro e w9 ⟨g9, cap9, rfl, ho9, hb9⟩
  obtain ⟨hcp9, hr9⟩ := row_of_owns' HLT'.out.1 ho9 HLT'.out.2
  have HB9 := hid (HB8.out.trans (hb9.mono HB8.out.size))
  have hR9 := (hb9.block _ (by have := HL8.out; omega)).trans HR8.out
  have hQ9 := (hb9.block _ (by have := HL8.out; omega)).trans HQ8.out
  have HL9 : Hid (q + 1 < w9.heap.size) := by have := HL8.out; have := hb9.size; show _ < _; omega
  have hqb := fun W (hW : Below w9.heap.size w9 W) => cells8 ((hW.block q (by have := HL9.out; omega)).trans hQ9)
  have hrb := fun W (hW : Below w9.heap.size w9 W) => cells8 ((hW.block (q + 1) (by have := HL9.out; omega)).trans hR9)
  have hqb0 : ∀ W, Below w9.heap.size w9 W → W.cell? ⟨q, 0, none⟩ = some (.int .i64 nb) := fun W hW => (hqb W hW).1
  have hqb1 : ∀ W, Below w9.heap.size w9 W → W.cell? ⟨q, 1, none⟩ = some (.int .i64 bt) := fun W hW => (hqb W hW).2.1
  have hqb2 : ∀ W, Below w9.heap.size w9 W → W.cell? ⟨q, 2, none⟩ = some (.slice aj nj cj) := fun W hW => (hqb W hW).2.2.1
  have hqb3 : ∀ W, Below w9.heap.size w9 W → W.cell? ⟨q, 3, none⟩ = some (.int .i64 lj) := fun W hW => (hqb W hW).2.2.2.1
  have hqb4 : ∀ W, Below w9.heap.size w9 W → W.cell? ⟨q, 4, none⟩ = some (.int .u32 (kj : Int)) := fun W hW => (hqb W hW).2.2.2.2.1
  have hqb5 : ∀ W, Below w9.heap.size w9 W → W.cell? ⟨q, 5, none⟩ = some (.slice ac nc cc) := fun W hW => (hqb W hW).2.2.2.2.2.1
  have hqb6 : ∀ W, Below w9.heap.size w9 W → W.cell? ⟨q, 6, none⟩ = some (.int .i64 lc) := fun W hW => (hqb W hW).2.2.2.2.2.2.1
  have hqb7 : ∀ W, Below w9.heap.size w9 W → W.cell? ⟨q, 7, none⟩ = some (.int .u32 (kc : Int)) := fun W hW => (hqb W hW).2.2.2.2.2.2.2
  have hrb0 : ∀ W, Below w9.heap.size w9 W → W.cell? ⟨q + 1, 0, none⟩ = some (.int .i64 nb') := fun W hW => (hrb W hW).1
  have hrb1 : ∀ W, Below w9.heap.size w9 W → W.cell? ⟨q + 1, 1, none⟩ = some (.int .i64 bt') := fun W hW => (hrb W hW).2.1
  have hrb2 : ∀ W, Below w9.heap.size w9 W → W.cell? ⟨q + 1, 2, none⟩ = some (.slice aj' nj' cj') := fun W hW => (hrb W hW).2.2.1
  have hrb3 : ∀ W, Below w9.heap.size w9 W → W.cell? ⟨q + 1, 3, none⟩ = some (.int .i64 lj') := fun W hW => (hrb W hW).2.2.2.1
  have hrb4 : ∀ W, Below w9.heap.size w9 W → W.cell? ⟨q + 1, 4, none⟩ = some (.int .u32 (kj' : Int)) := fun W hW => (hrb W hW).2.2.2.2.1
  have hrb5 : ∀ W, Below w9.heap.size w9 W → W.cell? ⟨q + 1, 5, none⟩ = some (.slice ac' nc' cc') := fun W hW => (hrb W hW).2.2.2.2.2.1
  have hrb6 : ∀ W, Below w9.heap.size w9 W → W.cell? ⟨q + 1, 6, none⟩ = some (.int .i64 lc') := fun W hW => (hrb W hW).2.2.2.2.2.2.1
  have hrb7 : ∀ W, Below w9.heap.size w9 W → W.cell? ⟨q + 1, 7, none⟩ = some (.int .u32 (kc' : Int)) := fun W hW => (hrb W hW).2.2.2.2.2.2.2
  have hSA : ∀ W, Below w9.heap.size w9 W → (convert 35 9 (.slice (some ⟨g7, 0, none⟩) 256 cap7)).run Try.prog W = .ok (.string (strOf a.bytes)) W := str_at (cap := cap7) (HRW8.out.below hb9) HLT.out.1
  have hSB : ∀ W, Below w9.heap.size w9 W → (convert 35 9 (.slice (some ⟨g9, 0, none⟩) 256 cap9)).run Try.prog W = .ok (.string (strOf b.bytes)) W := str_at (cap := cap9) hr9 HLT'.out.1
  have heq : ((strOf a.bytes).toList == (strOf b.bytes).toList) = decide (a = b) := by
    rw [strs_same _ _ HLT.out.2 HLT'.out.2, decide_eq_decide]
    exact bytes_inj HOA.out HOB.out (by rw [HSA.out]; exact HA.out.2.2.2.2.1) (by rw [HSA.out]; exact HA.out.2.2.2.2.2) (by rw [HSB.out]; exact HA'.out.2.2.2.2.1) (by rw [HSB.out]; exact HA'.out.2.2.2.2.2)
  have hMd := fun W (hW : Below w9.heap.size w9 W) => (made_any W nb bt aj nj cj lj kj ac nc cc lc kc)
  have hSm : ∀ W (hW : Below w9.heap.size w9 W), _ := fun W hW => same_any W nb bt aj nj cj lj kj ac nc cc lc kc sj sc nb' bt' aj' nj' cj' lj' kj' ac' nc' cc' lc' kc' sj' sc' (HA.out.1.below (HB9.out.trans (hW.mono HB9.out.size))) HA.out.2.1 (HA.out.2.2.1.below (HB9.out.trans (hW.mono HB9.out.size))) HA.out.2.2.2.1 (by have := HLL.out; omega) (by have := HLL.out; omega) (HA'.out.1.below (HB9.out.trans (hW.mono HB9.out.size))) HA'.out.2.1 (HA'.out.2.2.1.below (HB9.out.trans (hW.mono HB9.out.size))) HA'.out.2.2.2.1 (by have := HLL.out; omega) (by have := HLL.out; omega) a b HSA.out HSB.out
  have HMd := hid hMd
  have HSm := hid hSm
  generalize strOf a.bytes = SA at *
  generalize strOf b.bytes = SB at *
  generalize decide (a = b) = rr at *
  clear hb9 ho9 hr9 hcp9 hR9 hQ9 hqb hrb HQ8 HR8 HL8 HB8 HRW8 hMd hSm
  go_wp2_with fail
  go_region_held (fun W => Below w9.heap.size w9 W) (first | assumption | (refine Below.drew ?_; exact Below.refl _ _)) (first
    | (go_at_call 11; refine (HMd.out _ ?_).mono ?_; assumption; rintro e w10 ⟨rfl, hb10⟩; unfold spV; have hb10 := Below.trans ‹Below w9.heap.size w9 _› (hb10.mono (Below.size ‹Below w9.heap.size w9 _›)))
    | (go_at_call 16; refine (HSm.out _ ?_).mono ?_; assumption; rintro e w11 ⟨rfl, hb11⟩; have hb11 := Below.trans ‹Below w9.heap.size w9 _› (hb11.mono (Below.size ‹Below w9.heap.size w9 _›))))
  have HBZ := hid (HB9.out.trans (hb11.mono HB9.out.size))
  go_wp2_with fail
  go_ret
  exact ⟨rfl, HBZ.out⟩
set_option linter.unusedVariables false
set_option maxRecDepth 100000 in
theorem superApart_lifted (os : Os) (started : os.Started) (H : Type) (enc : TypeId × Value → H) :
    ReturnsInHanded {} Try.checked os 8 .any (Rows.superApartSpec.pre6 enc Try.prog Try.f8 Rows.superApartRow.domain false) (Rows.superApartSpec.post enc Try.prog Try.f8 false true false false) := by
  refine returnsInHanded_of_change (C := Try.checked) laws_own started (by kernel_rfl) Try.func8
    (ChangeSpec.witness6 (enc := enc) (C := Try.checked) false ⟨#[], #[.agg #[.int .i64 0, .int .i64 0, .slice none 0 0, .int .i64 0, .int .u32 0, .slice none 0 0, .int .i64 0, .int .u32 0], .agg #[.int .i64 0, .int .i64 0, .slice none 0 0, .int .i64 0, .int .u32 0, .slice none 0 0, .int .i64 0, .int .u32 0]], []⟩ 8 (by kernel_rfl) (by kernel_rfl) (by kernel_rfl) (by kernel_rfl)) ?_
  intro W base args ds gs before hval0 hW hcnd _
  have hval : ∀ (j : Nat) t v, Try.f8.params[j]? = some t → args[j]? = some v → Value.okWide Try.prog W .any base t v := hval0
  have hW' := hW
  obtain ⟨p, q, hA0, hV, rfl, hfz, hnd⟩ := hW
  have hA : DataW.TrodAll enc Try.prog W 0 (fun _ => true) true Try.f8.params.toList args.toList ds p := hA0
  rw [Try.params8] at hA hval
  obtain ⟨v0, vs0, d0, ds0, p0, q0, hargs, rfl, rfl, h0, r0⟩ := trodAll_cons hA
  obtain ⟨v1, vs1, d1, ds1, p1, q1, rfl, rfl, rfl, h1, r1⟩ := trodAll_cons r0
  obtain ⟨rfl, rfl, rfl⟩ := trodAll_nil r1
  obtain rfl : args = #[v0, v1] := by cases args; simp_all
  obtain ⟨rfl, rfl⟩ := trodVars_none hV
  obtain ⟨c0, rfl, _⟩ := okWide_struct Try.underlying27 (hval 0 27 v0 rfl rfl)
  have k0 := h0
  have lt0 : ∀ x ∈ p0, x.block < W.heap.size := by obtain ⟨m, hm⟩ := k0; exact DataW.trod_lt m _ _ _ hm
  obtain ⟨s0, hs0⟩ : ∃ s, SupIn W (.agg c0) s := by
    obtain ⟨fuel, hf⟩ := h0
    exact sup_of hf
  obtain ⟨c1, rfl, _⟩ := okWide_struct Try.underlying27 (hval 1 27 v1 rfl rfl)
  have k1 := h1
  have lt1 : ∀ x ∈ p1, x.block < W.heap.size := by obtain ⟨m, hm⟩ := k1; exact DataW.trod_lt m _ _ _ hm
  obtain ⟨s1, hs1⟩ : ∃ s, SupIn W (.agg c1) s := by
    obtain ⟨fuel, hf⟩ := h1
    exact sup_of hf
  clear hA0 hval0
  refine (superApart_walk W c0 s0 hs0 c1 s1 hs1).mono fun e W' ⟨he, bel⟩ => ?_
  subst he
  exact ⟨_, rfl, _, _, _, [], _, [], hW', trodAll_mk1 (shut_bool Try.underlying4 _), (trodAll_cons_mk (Below.trod laws_laid (by kernel_rfl) (of_decide_eq_true (by kernel_rfl)) k0 bel lt0) (trodAll_cons_mk (Below.trod laws_laid (by kernel_rfl) (of_decide_eq_true (by kernel_rfl)) k1 bel lt1) trodAll_mk0)), rfl, bel.frame _, fun h => by cases h⟩

theorem superApart_over : Rows.superApartRow.holds Try.pinned (OpenSpec.ofChange Rows.superApartSpec) :=
  OpenClaim.holds_of_wide 8 Try.f8 rfl rfl rfl rfl rfl rfl rfl ⟨rfl, rfl, rfl, rfl, rfl⟩ rfl rfl rfl rfl rfl (by kernel_rfl) Try.func8 (by kernel_rfl)
    (of_decide_eq_true (by kernel_rfl)) (by unfold Func.isWrapper; first | (rw [if_pos (by decide +kernel)]; kernel_rfl) | (rw [if_neg (by decide +kernel)]; exact ⟨rfl, rfl⟩))
    (fun os started H enc _ => superApart_lifted os started H enc)
theorem superApart_holds : Rows.SuperApartSaid := superApart_over
#print axioms superApart_holds
end Go.Proofs.Ytmfmhlhpleahpaa
