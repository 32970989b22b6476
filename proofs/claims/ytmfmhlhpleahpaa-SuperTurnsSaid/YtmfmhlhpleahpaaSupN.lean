/- What the statements' own Same answers: whether two slots are one. Condition: lists are no longer than a thousand million. -/
import Derived.Test.YtmfmhlhpleahpaaSupM
import Derived.Deep.RegionHeld
namespace Go.Proofs.Ytmfmhlhpleahpaa
open Go.RowKit Pen
open Crc (four nx)
open scoped Classical
/-- Two logs as they lie, one beside the other. -/
structure TwoAt (v : World) (x y i : Nat) (A B : Lg) : Prop where
  ex : ∃ a n c a' n' c', v.cell? ⟨x, i * 3, none⟩ = some (.slice a n c) ∧ v.cell? ⟨x, i * 3 + 1, none⟩ = some (.int .i64 A.len) ∧ v.cell? ⟨x, i * 3 + 2, none⟩ = some (.int .u32 (A.last : Int)) ∧ IRow v a A.segs ∧ A.segs.length = n ∧
    v.cell? ⟨y, i * 3, none⟩ = some (.slice a' n' c') ∧ v.cell? ⟨y, i * 3 + 1, none⟩ = some (.int .i64 B.len) ∧ v.cell? ⟨y, i * 3 + 2, none⟩ = some (.int .u32 (B.last : Int)) ∧ IRow v a' B.segs ∧ B.segs.length = n' ∧ n ≤ 1000000000 ∧ n' ≤ 1000000000
theorem cells6 {W : World} {q : Nat} {v0 v1 v2 v3 v4 v5 : Value} {t : TypeId} (h : W.heap[q]? = some (.cells #[v0, v1, v2, v3, v4, v5] t (0, 0))) : W.cell? ⟨q, 0, none⟩ = some v0 ∧ W.cell? ⟨q, 1, none⟩ = some v1 ∧ W.cell? ⟨q, 2, none⟩ = some v2 ∧ W.cell? ⟨q, 3, none⟩ = some v3 ∧ W.cell? ⟨q, 4, none⟩ = some v4 ∧ W.cell? ⟨q, 5, none⟩ = some v5 :=
  ⟨by rw [cell_of_row W q 0 _ t (0, 0) h]; rfl, by rw [cell_of_row W q 1 _ t (0, 0) h]; rfl, by rw [cell_of_row W q 2 _ t (0, 0) h]; rfl, by rw [cell_of_row W q 3 _ t (0, 0) h]; rfl, by rw [cell_of_row W q 4 _ t (0, 0) h]; rfl, by rw [cell_of_row W q 5 _ t (0, 0) h]; rfl⟩
theorem take_eq_all {l m : List Int} {n : Nat} (hl : l.length = n) (hm : m.length = n) (h : l.take n = m.take n) : l = m := by
  rwa [List.take_of_length_le (by omega), List.take_of_length_le (by omega)] at h
theorem take_eq_succ {l m : List Int} {j : Nat} (hl : j < l.length) (hm : j < m.length) (h : l.take j = m.take j) (e : l.getD j 0 = m.getD j 0) : l.take (j + 1) = m.take (j + 1) := by
  rw [take_snoc_int l j hl, take_snoc_int m j hm, h, e]
theorem two_eq {a b c d : Lg} (h : [a, b] = [c, d]) : a = c ∧ b = d := by simpa using h
set_option maxRecDepth 10000 in
set_option maxHeartbeats 8000000 in
theorem same_any (w : World) (nb bt : Int) (aj : Option Addr) (nj cj : Nat) (lj : Int) (kj : Nat) (ac : Option Addr) (nc cc : Nat) (lc : Int) (kc : Nat) (sj sc : List Int) (nb' bt' : Int) (aj' : Option Addr) (nj' cj' : Nat) (lj' : Int) (kj' : Nat) (ac' : Option Addr) (nc' cc' : Nat) (lc' : Int) (kc' : Nat) (sj' sc' : List Int)
    (hj : IRow w aj sj) (hnj : sj.length = nj) (hc : IRow w ac sc) (hnc : sc.length = nc) (hmj : nj ≤ 1000000000) (hmc : nc ≤ 1000000000) (hj' : IRow w aj' sj') (hnj' : sj'.length = nj') (hc' : IRow w ac' sc') (hnc' : sc'.length = nc') (hmj' : nj' ≤ 1000000000) (hmc' : nc' ≤ 1000000000)
    (s s' : Sp) (hs : s = ⟨nb, bt, ⟨sj, lj, kj⟩, ⟨sc, lc, kc⟩⟩) (hs' : s' = ⟨nb', bt', ⟨sj', lj', kj'⟩, ⟨sc', lc', kc'⟩⟩) :
    Calls Try.prog 16 #[.agg #[.int .i64 nb, .int .i64 bt, .slice aj nj cj, .int .i64 lj, .int .u32 (kj : Int), .slice ac nc cc, .int .i64 lc, .int .u32 (kc : Int)], .agg #[.int .i64 nb', .int .i64 bt', .slice aj' nj' cj', .int .i64 lj', .int .u32 (kj' : Int), .slice ac' nc' cc', .int .i64 lc', .int .u32 (kc' : Int)]] w
      fun e w' => e = .returned (.bool (decide (s = s'))) ∧ Below w.heap.size w w' := by
  have HT : Hid (decide (s = s') = true ↔ nb = nb' ∧ bt = bt' ∧ [(⟨sj, lj, kj⟩ : Lg), ⟨sc, lc, kc⟩] = [⟨sj', lj', kj'⟩, ⟨sc', lc', kc'⟩]) := by
    show _ ↔ _
    rw [decide_eq_true_eq, hs, hs']
    constructor
    · intro h
      injection h with h1 h2 h3 h4
      exact ⟨h1, h2, by rw [h3, h4]⟩
    · rintro ⟨h1, h2, h3⟩
      obtain ⟨h4, h5⟩ := two_eq h3
      rw [h1, h2, h4, h5]
  generalize decide (s = s') = r at *
  clear hs hs'
  have HF : Hid (¬ (nb = nb' ∧ bt = bt' ∧ [(⟨sj, lj, kj⟩ : Lg), ⟨sc, lc, kc⟩] = [⟨sj', lj', kj'⟩, ⟨sc', lc', kc'⟩]) → r = false) := by
    show _ → _
    intro h
    cases r
    · rfl
    · exact absurd (HT.out.1 rfl) h
  obtain ⟨w2, hw2⟩ : ∃ w2, w2 = (w.alloc (.cells #[.int .i64 nb, .int .i64 bt, .slice aj nj cj, .int .i64 lj, .int .u32 (kj : Int), .slice ac nc cc, .int .i64 lc, .int .u32 (kc : Int)] 32)).alloc (.cells #[.int .i64 nb', .int .i64 bt', .slice aj' nj' cj', .int .i64 lj', .int .u32 (kj' : Int), .slice ac' nc' cc', .int .i64 lc', .int .u32 (kc' : Int)] 27) := ⟨_, rfl⟩
  have hb2 : Below w.heap.size w w2 := by rw [hw2]; exact ((Below.refl _ _).alloc (Nat.le_refl _) _).alloc (by simp) _
  have hq : w2.heap[w.heap.size]? = some (.cells #[.int .i64 nb, .int .i64 bt, .slice aj nj cj, .int .i64 lj, .int .u32 (kj : Int), .slice ac nc cc, .int .i64 lc, .int .u32 (kc : Int)] 32 (0, 0)) := by rw [hw2]; exact heap_alloc2_old _ _ _
  have hr : w2.heap[w.heap.size + 1]? = some (.cells #[.int .i64 nb', .int .i64 bt', .slice aj' nj' cj', .int .i64 lj', .int .u32 (kj' : Int), .slice ac' nc' cc', .int .i64 lc', .int .u32 (kc' : Int)] 27 (0, 0)) := by rw [hw2]; exact heap_alloc2_new _ _ _
  have hz2 : w2.heap.size = w.heap.size + 2 := by rw [hw2]; simp
  obtain ⟨q, hwq⟩ : ∃ q, w.heap.size = q := ⟨_, rfl⟩
  have KS : ∀ W : World, W.heap[q]? = w2.heap[q]? → W.heap[q + 1]? = w2.heap[q + 1]? → (W.cell? ⟨q, 2, none⟩ = some (.slice aj nj cj) ∧ W.cell? ⟨q, 3, none⟩ = some (.int .i64 lj) ∧ W.cell? ⟨q, 4, none⟩ = some (.int .u32 (kj : Int)) ∧ W.cell? ⟨q, 5, none⟩ = some (.slice ac nc cc) ∧ W.cell? ⟨q, 6, none⟩ = some (.int .i64 lc) ∧ W.cell? ⟨q, 7, none⟩ = some (.int .u32 (kc : Int)) ∧ W.cell? ⟨q + 1, 2, none⟩ = some (.slice aj' nj' cj') ∧ W.cell? ⟨q + 1, 3, none⟩ = some (.int .i64 lj') ∧ W.cell? ⟨q + 1, 4, none⟩ = some (.int .u32 (kj' : Int)) ∧ W.cell? ⟨q + 1, 5, none⟩ = some (.slice ac' nc' cc') ∧ W.cell? ⟨q + 1, 6, none⟩ = some (.int .i64 lc') ∧ W.cell? ⟨q + 1, 7, none⟩ = some (.int .u32 (kc' : Int))) := fun W e1 e2 => by
    rw [hwq] at hq hr
    have h1 := cells8 (e1.trans hq)
    have h2 := cells8 (e2.trans hr)
    exact ⟨h1.2.2.1, h1.2.2.2.1, h1.2.2.2.2.1, h1.2.2.2.2.2.1, h1.2.2.2.2.2.2.1, h1.2.2.2.2.2.2.2, h2.2.2.1, h2.2.2.2.1, h2.2.2.2.2.1, h2.2.2.2.2.2.1, h2.2.2.2.2.2.2.1, h2.2.2.2.2.2.2.2⟩
  have a1 : ∀ o : Obj, Below w2.heap.size w2 (w2.alloc o).drew := fun o => ((Below.refl _ _).alloc (Nat.le_refl _) o).drew
  have a2 : ∀ o o' : Obj, Below w2.heap.size w2 ((w2.alloc o).alloc o').drew := fun o o' => (((Below.refl _ _).alloc (Nat.le_refl _) o).alloc (by simp) o').drew
  have K0 := hid (KS w2.drew rfl rfl)
  have K1 := hid (KS (w2.alloc (.cells #[.slice aj nj cj, .int .i64 lj, .int .u32 (kj : Int), .slice ac nc cc, .int .i64 lc, .int .u32 (kc : Int)] 30)).drew ((a1 _).block q (by omega)) ((a1 _).block (q + 1) (by omega)))
  have K2 := hid (KS (w2.alloc (.cells #[.slice aj' nj' cj', .int .i64 lj', .int .u32 (kj' : Int), .slice ac' nc' cc', .int .i64 lc', .int .u32 (kc' : Int)] 25)).drew ((a1 _).block q (by omega)) ((a1 _).block (q + 1) (by omega)))
  have K3 := hid (KS ((w2.alloc (.cells #[.slice aj nj cj, .int .i64 lj, .int .u32 (kj : Int), .slice ac nc cc, .int .i64 lc, .int .u32 (kc : Int)] 30)).alloc (.cells #[.slice aj' nj' cj', .int .i64 lj', .int .u32 (kj' : Int), .slice ac' nc' cc', .int .i64 lc', .int .u32 (kc' : Int)] 25)).drew ((a2 _ _).block q (by omega)) ((a2 _ _).block (q + 1) (by omega)))
  have K4 := hid (KS ((w2.alloc (.cells #[.slice aj' nj' cj', .int .i64 lj', .int .u32 (kj' : Int), .slice ac' nc' cc', .int .i64 lc', .int .u32 (kc' : Int)] 25)).alloc (.cells #[.slice aj nj cj, .int .i64 lj, .int .u32 (kj : Int), .slice ac nc cc, .int .i64 lc, .int .u32 (kc : Int)] 30)).drew ((a2 _ _).block q (by omega)) ((a2 _ _).block (q + 1) (by omega)))
  -- the two ends, in one form
  have HV : Hid (∀ (v : World) (x y : Nat), Below w2.heap.size w2 v → v.heap[x]? = some (.cells #[.slice aj nj cj, .int .i64 lj, .int .u32 (kj : Int), .slice ac nc cc, .int .i64 lc, .int .u32 (kc : Int)] 30 (0, 0)) → v.heap[y]? = some (.cells #[.slice aj' nj' cj', .int .i64 lj', .int .u32 (kj' : Int), .slice ac' nc' cc', .int .i64 lc', .int .u32 (kc' : Int)] 25 (0, 0)) →
      (v.heap[q]? = some (.cells #[.int .i64 nb, .int .i64 bt, .slice aj nj cj, .int .i64 lj, .int .u32 (kj : Int), .slice ac nc cc, .int .i64 lc, .int .u32 (kc : Int)] 32 (0, 0)) ∧ v.heap[q + 1]? = some (.cells #[.int .i64 nb', .int .i64 bt', .slice aj' nj' cj', .int .i64 lj', .int .u32 (kj' : Int), .slice ac' nc' cc', .int .i64 lc', .int .u32 (kc' : Int)] 27 (0, 0)) ∧ Below w.heap.size w v ∧ ∀ i, i < 2 → TwoAt v x y i ([(⟨sj, lj, kj⟩ : Lg), ⟨sc, lc, kc⟩].getD i ⟨[], 0, 0⟩) ([(⟨sj', lj', kj'⟩ : Lg), ⟨sc', lc', kc'⟩].getD i ⟨[], 0, 0⟩))) := by
    show ∀ _ _ _, _
    intro v x y hbv hx hy
    have hbw : Below w.heap.size w v := hb2.trans (hbv.mono (by omega))
    refine ⟨(hbv.block q (by omega)).trans (by rw [← hwq]; exact hq), (hbv.block (q + 1) (by omega)).trans (by rw [← hwq]; exact hr), hbw, fun i hi => ?_⟩
    have h6 := cells6 hx
    have h7 := cells6 hy
    rcases (by omega : i = 0 ∨ i = 1) with rfl | rfl
    · exact ⟨aj, nj, cj, aj', nj', cj', h6.1, h6.2.1, h6.2.2.1, hj.below hbw, hnj, h7.1, h7.2.1, h7.2.2.1, hj'.below hbw, hnj', hmj, hmj'⟩
    · exact ⟨ac, nc, cc, ac', nc', cc', h6.2.2.2.1, h6.2.2.2.2.1, h6.2.2.2.2.2, hc.below hbw, hnc, h7.2.2.2.1, h7.2.2.2.2.1, h7.2.2.2.2.2, hc'.below hbw, hnc', hmc, hmc'⟩
  have HA1 := hid (HV.out ((w2.alloc (.cells #[.slice aj nj cj, .int .i64 lj, .int .u32 (kj : Int), .slice ac nc cc, .int .i64 lc, .int .u32 (kc : Int)] 30)).alloc (.cells #[.slice aj' nj' cj', .int .i64 lj', .int .u32 (kj' : Int), .slice ac' nc' cc', .int .i64 lc', .int .u32 (kc' : Int)] 25)).drew w2.heap.size (w2.heap.size + 1) (a2 _ _) (heap_alloc2_old _ _ _) (heap_alloc2_new _ _ _))
  have HA2 := hid (HV.out ((w2.alloc (.cells #[.slice aj' nj' cj', .int .i64 lj', .int .u32 (kj' : Int), .slice ac' nc' cc', .int .i64 lc', .int .u32 (kc' : Int)] 25)).alloc (.cells #[.slice aj nj cj, .int .i64 lj, .int .u32 (kj : Int), .slice ac nc cc, .int .i64 lc, .int .u32 (kc : Int)] 30)).drew (w2.heap.size + 1) w2.heap.size (a2 _ _) (heap_alloc2_new _ _ _) (heap_alloc2_old _ _ _))
  have HW2 := hid hw2
  have HWQ := hid hwq
  clear hw2 hb2 hq hr hz2 KS a1 a2 HV hj hnj hc hnc hmj hmc hj' hnj' hc' hnc' hmj' hmc'
  go_enter Try.func16, Try.ntmps16
  go_wp2_with fail
  rw [← HW2.out]
  clear HW2
  clear hwq
  go_region_held (fun W => W.cell? ⟨q, 2, none⟩ = some (.slice aj nj cj) ∧ W.cell? ⟨q, 3, none⟩ = some (.int .i64 lj) ∧ W.cell? ⟨q, 4, none⟩ = some (.int .u32 (kj : Int)) ∧ W.cell? ⟨q, 5, none⟩ = some (.slice ac nc cc) ∧ W.cell? ⟨q, 6, none⟩ = some (.int .i64 lc) ∧ W.cell? ⟨q, 7, none⟩ = some (.int .u32 (kc : Int)) ∧ W.cell? ⟨q + 1, 2, none⟩ = some (.slice aj' nj' cj') ∧ W.cell? ⟨q + 1, 3, none⟩ = some (.int .i64 lj') ∧ W.cell? ⟨q + 1, 4, none⟩ = some (.int .u32 (kj' : Int)) ∧ W.cell? ⟨q + 1, 5, none⟩ = some (.slice ac' nc' cc') ∧ W.cell? ⟨q + 1, 6, none⟩ = some (.int .i64 lc') ∧ W.cell? ⟨q + 1, 7, none⟩ = some (.int .u32 (kc' : Int))) (first | exact K0.out | exact K1.out | exact K2.out | exact K3.out | exact K4.out) (fail)
  · have HA := HA1
    clear K0 K1 K2 K3 K4 HA1 HA2
    generalize ((w2.alloc (.cells #[.slice aj nj cj, .int .i64 lj, .int .u32 (kj : Int), .slice ac nc cc, .int .i64 lc, .int .u32 (kc : Int)] 30)).alloc (.cells #[.slice aj' nj' cj', .int .i64 lj', .int .u32 (kj' : Int), .slice ac' nc' cc', .int .i64 lc', .int .u32 (kc' : Int)] 25)).drew = v at HA ⊢
    generalize w2.heap.size + 1 = y at HA ⊢
    generalize w2.heap.size = x at HA ⊢
    obtain ⟨LA, hLA⟩ : ∃ LA, [(⟨sj, lj, kj⟩ : Lg), ⟨sc, lc, kc⟩] = LA := ⟨_, rfl⟩
    obtain ⟨LB, hLB⟩ : ∃ LB, [(⟨sj', lj', kj'⟩ : Lg), ⟨sc', lc', kc'⟩] = LB := ⟨_, rfl⟩
    have HLA : Hid (LA.length = 2) := by rw [← hLA]; rfl
    have HLB : Hid (LB.length = 2) := by rw [← hLB]; rfl
    rw [hLA, hLB] at HT HF HA
    clear hLA hLB
    have HFL : Hid (∀ i, LA.getD i ⟨[], 0, 0⟩ ≠ LB.getD i ⟨[], 0, 0⟩ → r = false) := fun i h => HF.out (fun h' => h (by rw [h'.2.2]))
    have HDR : Hid (∀ n, Below w.heap.size w (v.drewN n)) := fun n => ⟨HA.out.2.2.1.os, HA.out.2.2.1.tape, HA.out.2.2.1.output, HA.out.2.2.1.size, HA.out.2.2.1.block⟩
    go_wp2_with fail
    go_loopg [7] 2 (fun gk v7 wr => ∃ i : Nat, i + gk = 2 ∧ v7 = .int .i64 (i : Int) ∧ LA.take i = LB.take i ∧ ∃ n, wr = v.drewN n)
    case atStart => exact ⟨0, rfl, rfl, rfl, 0, rfl⟩
    case round =>
      obtain ⟨i, hi, rfl, htk, n0, hwr⟩ := hrel
      have HTK := hid htk
      have HBW : Hid (Below w.heap.size w wr) := by rw [hwr]; exact HDR.out n0
      have HWW : Hid (∀ n, Below w.heap.size w (wr.drewN n)) := fun n => by rw [hwr, World.drewN_drewN]; exact HDR.out _
      have HWE : Hid (∀ n, ∃ m, wr.drewN n = v.drewN m) := fun n => ⟨n0 + n, by rw [hwr, World.drewN_drewN]⟩
      have HE0 : Hid (∃ m, wr = v.drewN m) := ⟨n0, hwr⟩
      obtain ⟨G, hG⟩ : ∃ G, G = gk := ⟨_, rfl⟩
      subst hG
      by_cases h2 : i < 2
      · obtain ⟨a, n, c, a', n', c', e0, e1, e2, hrow, hlen, f0, f1, f2, hrow', hlen', hbn, hbn'⟩ := (HA.out.2.2.2 i h2).ex
        have HNE : Hid (LA.getD i ⟨[], 0, 0⟩ ≠ LB.getD i ⟨[], 0, 0⟩ → r = false) := HFL.out i
        have HNX : Hid (LA.getD i ⟨[], 0, 0⟩ = LB.getD i ⟨[], 0, 0⟩ → LA.take (i + 1) = LB.take (i + 1)) := fun h => by
          have h3 : i < LA.length := by rw [HLA.out]; exact h2
          have h4 : i < LB.length := by rw [HLB.out]; exact h2
          rw [List.take_succ_eq_append_getElem h3, List.take_succ_eq_append_getElem h4, HTK.out]
          congr 1
          rw [List.getD_eq_getElem?_getD, List.getD_eq_getElem?_getD, List.getElem?_eq_getElem h3, List.getElem?_eq_getElem h4] at h
          simpa using h
        generalize LA.getD i ⟨[], 0, 0⟩ = A at *
        generalize LB.getD i ⟨[], 0, 0⟩ = B at *
        have hii : (i : Int) < 2 := by omega
        have HE := hid (And.intro e0 (And.intro e1 (And.intro e2 (And.intro f0 (And.intro f1 f2)))))
        have HRW := hid (And.intro hrow (And.intro hlen (And.intro hrow' hlen')))
        have g0 : wr.cell? ⟨x, i * 3, none⟩ = some (.slice a n c) := by rw [hwr]; exact e0
        have g1 : wr.cell? ⟨x, i * 3 + 1, none⟩ = some (.int .i64 A.len) := by rw [hwr]; exact e1
        have g2 : wr.cell? ⟨x, i * 3 + 2, none⟩ = some (.int .u32 (A.last : Int)) := by rw [hwr]; exact e2
        have k0 : wr.cell? ⟨y, i * 3, none⟩ = some (.slice a' n' c') := by rw [hwr]; exact f0
        have k1 : wr.cell? ⟨y, i * 3 + 1, none⟩ = some (.int .i64 B.len) := by rw [hwr]; exact f1
        have k2 : wr.cell? ⟨y, i * 3 + 2, none⟩ = some (.int .u32 (B.last : Int)) := by rw [hwr]; exact f2
        clear e0 e1 e2 f0 f1 f2 hrow hlen hrow' hlen' htk hwr
        by_cases hl : A.len = B.len
        · by_cases hla : A.last = B.last
          · by_cases hn : n = n'
            · have HEQ := hid (And.intro hl hla)
              rw [← hl] at k1
              rw [← hla] at k2
              subst hn
              clear hl hla
              generalize A.len = al at g1 k1
              generalize A.last = aa at g2 k2
              go_wp2_with fail
              go_quiet (fail)
              have HQ0 := hid (HWE.out nq)
              have HQB := hid (HWW.out nq)
              generalize wr.drewN nq = v1 at HQ0 HQB ⊢
              clear g0 g1 g2 k0 k1 k2
              go_wp2_with fail
              go_loopg [8] n (fun gk v8 wr => ∃ j : Nat, j + gk = n ∧ v8 = .int .i64 (j : Int) ∧ A.segs.take j = B.segs.take j ∧ ∃ m, wr = v.drewN m)
              case atStart => exact ⟨0, by omega, rfl, rfl, HQ0.out⟩
              case round =>
                obtain ⟨j, hj, rfl, htj, m0, hwr⟩ := hrel
                have HTJ := hid htj
                have g0 : wr.cell? ⟨x, i * 3, none⟩ = some (.slice a n c) := by rw [hwr]; exact HE.out.1
                have k0 : wr.cell? ⟨y, i * 3, none⟩ = some (.slice a' n c') := by rw [hwr]; exact HE.out.2.2.2.1
                by_cases hjn : j < n
                · have hji : (j : Int) < (n : Int) := by omega
                  have hla1 : j < A.segs.length := by rw [HRW.out.2.1]; exact hjn
                  have hlb1 : j < B.segs.length := by rw [HRW.out.2.2.2]; exact hjn
                  obtain ⟨b1, o1, rfl, -, hc1⟩ := HRW.out.1.cell (by intro h; rw [h] at hla1; simp at hla1)
                  obtain ⟨b2, o2, rfl, -, hc2⟩ := HRW.out.2.2.1.cell (by intro h; rw [h] at hlb1; simp at hlb1)
                  have s1 : wr.cell? ⟨b1, o1 + j, none⟩ = some (.int .i64 (A.segs.getD j 0)) := by rw [hwr]; exact hc1 j hla1
                  have s2 : wr.cell? ⟨b2, o2 + j, none⟩ = some (.int .i64 (B.segs.getD j 0)) := by rw [hwr]; exact hc2 j hlb1
                  have HW2 : Hid (∀ n, ∃ m, wr.drewN n = v.drewN m) := fun n => ⟨m0 + n, by rw [hwr, World.drewN_drewN]⟩
                  have HB2 : Hid (∀ n, Below w.heap.size w (wr.drewN n)) := fun n => by rw [hwr, World.drewN_drewN]; exact HDR.out _
                  have HLJ := hid (And.intro hla1 hlb1)
                  clear hc1 hc2 hwr htj hla1 hlb1
                  by_cases heq : A.segs.getD j 0 = B.segs.getD j 0
                  · have HQE := hid heq
                    rw [← heq] at s2
                    clear heq
                    generalize A.segs.getD j 0 = z at s1 s2 ⊢
                    go_wp2_with fail
                    go_quiet (fail)
                    have HQ2 := hid (HW2.out nq)
                    generalize wr.drewN nq = v2 at HQ2 ⊢
                    go_wp2_with fail
                    go_roundg (gk - 1)
                    case measure => omega
                    case rel => exact ⟨j + 1, by omega, by go_num, take_eq_succ HLJ.out.1 HLJ.out.2 HTJ.out HQE.out, HQ2.out⟩
                  · have HR0 := hid (HNE.out (fun h => heq (by rw [h])))
                    generalize A.segs.getD j 0 = z at *
                    generalize B.segs.getD j 0 = z' at *
                    have hzz : (z == z') = false := by simpa using heq
                    have hzn : (z != z') = true := by simpa using heq
                    clear heq
                    go_wp2_with fail
                    go_quiet (fail)
                    have HQ2 := hid (HB2.out nq)
                    generalize wr.drewN nq = v2 at HQ2 ⊢
                    go_wp2_with fail
                    go_ret
                    exact ⟨by rw [HR0.out]; rfl, HQ2.out⟩
                · have hji : ¬ (j : Int) < (n : Int) := by omega
                  obtain rfl : j = n := by omega
                  have HEE : Hid (∃ m, wr = v.drewN m) := ⟨m0, hwr⟩
                  clear hwr
                  go_wp2_with fail
                  go_roundg (G - 1)
                  case measure => omega
                  case rel =>
                    refine ⟨i + 1, by omega, by go_num, HNX.out ?_, HEE.out⟩
                    have hsg := take_eq_all HRW.out.2.1 HRW.out.2.2.2 HTJ.out
                    cases A
                    cases B
                    simp only [Lg.mk.injEq]
                    exact ⟨hsg, HEQ.out.1, HEQ.out.2⟩
            · have HR0 := hid (HNE.out (fun h => hn (by rw [← HRW.out.2.1, ← HRW.out.2.2.2, h])))
              have hnn : ((n : Int) == (n' : Int)) = false := by simp; omega
              have hnm : ((n : Int) != (n' : Int)) = true := by simp; omega
              rw [← hl] at k1
              rw [← hla] at k2
              clear hl hla hn
              generalize A.len = al at *
              generalize A.last = aa at *
              go_wp2_with fail
              go_quiet (fail)
              have HQ2 := hid (HWW.out nq)
              generalize wr.drewN nq = v2 at HQ2 ⊢
              go_wp2_with fail
              go_ret
              exact ⟨by rw [HR0.out]; rfl, HQ2.out⟩
          · have HR0 := hid (HNE.out (fun h => hla (by rw [h])))
            have hnn : ((A.last : Int) == (B.last : Int)) = false := by simp; omega
            have hnm : ((A.last : Int) != (B.last : Int)) = true := by simp; omega
            rw [← hl] at k1
            clear hl hla
            generalize A.len = al at *
            generalize A.last = aa at *
            generalize B.last = ab at *
            go_wp2_with fail
            go_quiet (fail)
            have HQ2 := hid (HWW.out nq)
            generalize wr.drewN nq = v2 at HQ2 ⊢
            go_wp2_with fail
            go_ret
            exact ⟨by rw [HR0.out]; rfl, HQ2.out⟩
        · have HR0 := hid (HNE.out (fun h => hl (by rw [h])))
          have hnn : (A.len == B.len) = false := by simpa using hl
          have hnm : (A.len != B.len) = true := by simpa using hl
          clear hl
          generalize A.len = al at *
          generalize B.len = bl at *
          go_wp2_with fail
          go_quiet (fail)
          have HQ2 := hid (HWW.out nq)
          generalize wr.drewN nq = v2 at HQ2 ⊢
          go_wp2_with fail
          go_ret
          exact ⟨by rw [HR0.out]; rfl, HQ2.out⟩
      · have hii : ¬ (i : Int) < 2 := by omega
        have HLE : Hid (LA = LB) := by
          have := HTK.out
          rwa [List.take_of_length_le (by rw [HLA.out]; omega), List.take_of_length_le (by rw [HLB.out]; omega)] at this
        have hq : wr.heap[q]? = some (.cells #[.int .i64 nb, .int .i64 bt, .slice aj nj cj, .int .i64 lj, .int .u32 (kj : Int), .slice ac nc cc, .int .i64 lc, .int .u32 (kc : Int)] 32 (0, 0)) := by rw [hwr]; exact HA.out.1
        have hr : wr.heap[q + 1]? = some (.cells #[.int .i64 nb', .int .i64 bt', .slice aj' nj' cj', .int .i64 lj', .int .u32 (kj' : Int), .slice ac' nc' cc', .int .i64 lc', .int .u32 (kc' : Int)] 27 (0, 0)) := by rw [hwr]; exact HA.out.2.1
        obtain ⟨e0, e1, e2, e3, e4, e5, e6, e7⟩ := cells8 hq
        obtain ⟨f0, f1, f2, f3, f4, f5, f6, f7⟩ := cells8 hr
        clear hwr htk e2 e3 e4 e5 e6 e7 f2 f3 f4 f5 f6 f7 hq hr
        by_cases b0 : nb = nb'
        · subst b0
          by_cases b1 : bt = bt'
          · subst b1
            have HR0 := hid (HT.out.2 ⟨rfl, rfl, HLE.out⟩)
            go_wp2_with fail
            go_ret
            exact ⟨by rw [HR0.out]; rfl, HBW.out⟩
          · have HR0 := hid (HF.out (fun h => b1 h.2.1))
            have b1' : (bt == bt') = false := by simpa using b1
            clear b1
            go_wp2_with fail
            go_ret
            exact ⟨by rw [HR0.out]; rfl, HBW.out⟩
        · have HR0 := hid (HF.out (fun h => b0 h.1))
          have b0' : (nb == nb') = false := by simpa using b0
          clear b0
          go_wp2_with fail
          go_ret
          exact ⟨by rw [HR0.out]; rfl, HBW.out⟩
  · have HA := HA2
    clear K0 K1 K2 K3 K4 HA1 HA2
    generalize ((w2.alloc (.cells #[.slice aj' nj' cj', .int .i64 lj', .int .u32 (kj' : Int), .slice ac' nc' cc', .int .i64 lc', .int .u32 (kc' : Int)] 25)).alloc (.cells #[.slice aj nj cj, .int .i64 lj, .int .u32 (kj : Int), .slice ac nc cc, .int .i64 lc, .int .u32 (kc : Int)] 30)).drew = v at HA ⊢
    generalize w2.heap.size + 1 = x at HA ⊢
    generalize w2.heap.size = y at HA ⊢
    obtain ⟨LA, hLA⟩ : ∃ LA, [(⟨sj, lj, kj⟩ : Lg), ⟨sc, lc, kc⟩] = LA := ⟨_, rfl⟩
    obtain ⟨LB, hLB⟩ : ∃ LB, [(⟨sj', lj', kj'⟩ : Lg), ⟨sc', lc', kc'⟩] = LB := ⟨_, rfl⟩
    have HLA : Hid (LA.length = 2) := by rw [← hLA]; rfl
    have HLB : Hid (LB.length = 2) := by rw [← hLB]; rfl
    rw [hLA, hLB] at HT HF HA
    clear hLA hLB
    have HFL : Hid (∀ i, LA.getD i ⟨[], 0, 0⟩ ≠ LB.getD i ⟨[], 0, 0⟩ → r = false) := fun i h => HF.out (fun h' => h (by rw [h'.2.2]))
    have HDR : Hid (∀ n, Below w.heap.size w (v.drewN n)) := fun n => ⟨HA.out.2.2.1.os, HA.out.2.2.1.tape, HA.out.2.2.1.output, HA.out.2.2.1.size, HA.out.2.2.1.block⟩
    go_wp2_with fail
    go_loopg [7] 2 (fun gk v7 wr => ∃ i : Nat, i + gk = 2 ∧ v7 = .int .i64 (i : Int) ∧ LA.take i = LB.take i ∧ ∃ n, wr = v.drewN n)
    case atStart => exact ⟨0, rfl, rfl, rfl, 0, rfl⟩
    case round =>
      obtain ⟨i, hi, rfl, htk, n0, hwr⟩ := hrel
      have HTK := hid htk
      have HBW : Hid (Below w.heap.size w wr) := by rw [hwr]; exact HDR.out n0
      have HWW : Hid (∀ n, Below w.heap.size w (wr.drewN n)) := fun n => by rw [hwr, World.drewN_drewN]; exact HDR.out _
      have HWE : Hid (∀ n, ∃ m, wr.drewN n = v.drewN m) := fun n => ⟨n0 + n, by rw [hwr, World.drewN_drewN]⟩
      have HE0 : Hid (∃ m, wr = v.drewN m) := ⟨n0, hwr⟩
      obtain ⟨G, hG⟩ : ∃ G, G = gk := ⟨_, rfl⟩
      subst hG
      by_cases h2 : i < 2
      · obtain ⟨a, n, c, a', n', c', e0, e1, e2, hrow, hlen, f0, f1, f2, hrow', hlen', hbn, hbn'⟩ := (HA.out.2.2.2 i h2).ex
        have HNE : Hid (LA.getD i ⟨[], 0, 0⟩ ≠ LB.getD i ⟨[], 0, 0⟩ → r = false) := HFL.out i
        have HNX : Hid (LA.getD i ⟨[], 0, 0⟩ = LB.getD i ⟨[], 0, 0⟩ → LA.take (i + 1) = LB.take (i + 1)) := fun h => by
          have h3 : i < LA.length := by rw [HLA.out]; exact h2
          have h4 : i < LB.length := by rw [HLB.out]; exact h2
          rw [List.take_succ_eq_append_getElem h3, List.take_succ_eq_append_getElem h4, HTK.out]
          congr 1
          rw [List.getD_eq_getElem?_getD, List.getD_eq_getElem?_getD, List.getElem?_eq_getElem h3, List.getElem?_eq_getElem h4] at h
          simpa using h
        generalize LA.getD i ⟨[], 0, 0⟩ = A at *
        generalize LB.getD i ⟨[], 0, 0⟩ = B at *
        have hii : (i : Int) < 2 := by omega
        have HE := hid (And.intro e0 (And.intro e1 (And.intro e2 (And.intro f0 (And.intro f1 f2)))))
        have HRW := hid (And.intro hrow (And.intro hlen (And.intro hrow' hlen')))
        have g0 : wr.cell? ⟨x, i * 3, none⟩ = some (.slice a n c) := by rw [hwr]; exact e0
        have g1 : wr.cell? ⟨x, i * 3 + 1, none⟩ = some (.int .i64 A.len) := by rw [hwr]; exact e1
        have g2 : wr.cell? ⟨x, i * 3 + 2, none⟩ = some (.int .u32 (A.last : Int)) := by rw [hwr]; exact e2
        have k0 : wr.cell? ⟨y, i * 3, none⟩ = some (.slice a' n' c') := by rw [hwr]; exact f0
        have k1 : wr.cell? ⟨y, i * 3 + 1, none⟩ = some (.int .i64 B.len) := by rw [hwr]; exact f1
        have k2 : wr.cell? ⟨y, i * 3 + 2, none⟩ = some (.int .u32 (B.last : Int)) := by rw [hwr]; exact f2
        clear e0 e1 e2 f0 f1 f2 hrow hlen hrow' hlen' htk hwr
        by_cases hl : A.len = B.len
        · by_cases hla : A.last = B.last
          · by_cases hn : n = n'
            · have HEQ := hid (And.intro hl hla)
              rw [← hl] at k1
              rw [← hla] at k2
              subst hn
              clear hl hla
              generalize A.len = al at g1 k1
              generalize A.last = aa at g2 k2
              go_wp2_with fail
              go_quiet (fail)
              have HQ0 := hid (HWE.out nq)
              have HQB := hid (HWW.out nq)
              generalize wr.drewN nq = v1 at HQ0 HQB ⊢
              clear g0 g1 g2 k0 k1 k2
              go_wp2_with fail
              go_loopg [8] n (fun gk v8 wr => ∃ j : Nat, j + gk = n ∧ v8 = .int .i64 (j : Int) ∧ A.segs.take j = B.segs.take j ∧ ∃ m, wr = v.drewN m)
              case atStart => exact ⟨0, by omega, rfl, rfl, HQ0.out⟩
              case round =>
                obtain ⟨j, hj, rfl, htj, m0, hwr⟩ := hrel
                have HTJ := hid htj
                have g0 : wr.cell? ⟨x, i * 3, none⟩ = some (.slice a n c) := by rw [hwr]; exact HE.out.1
                have k0 : wr.cell? ⟨y, i * 3, none⟩ = some (.slice a' n c') := by rw [hwr]; exact HE.out.2.2.2.1
                by_cases hjn : j < n
                · have hji : (j : Int) < (n : Int) := by omega
                  have hla1 : j < A.segs.length := by rw [HRW.out.2.1]; exact hjn
                  have hlb1 : j < B.segs.length := by rw [HRW.out.2.2.2]; exact hjn
                  obtain ⟨b1, o1, rfl, -, hc1⟩ := HRW.out.1.cell (by intro h; rw [h] at hla1; simp at hla1)
                  obtain ⟨b2, o2, rfl, -, hc2⟩ := HRW.out.2.2.1.cell (by intro h; rw [h] at hlb1; simp at hlb1)
                  have s1 : wr.cell? ⟨b1, o1 + j, none⟩ = some (.int .i64 (A.segs.getD j 0)) := by rw [hwr]; exact hc1 j hla1
                  have s2 : wr.cell? ⟨b2, o2 + j, none⟩ = some (.int .i64 (B.segs.getD j 0)) := by rw [hwr]; exact hc2 j hlb1
                  have HW2 : Hid (∀ n, ∃ m, wr.drewN n = v.drewN m) := fun n => ⟨m0 + n, by rw [hwr, World.drewN_drewN]⟩
                  have HB2 : Hid (∀ n, Below w.heap.size w (wr.drewN n)) := fun n => by rw [hwr, World.drewN_drewN]; exact HDR.out _
                  have HLJ := hid (And.intro hla1 hlb1)
                  clear hc1 hc2 hwr htj hla1 hlb1
                  by_cases heq : A.segs.getD j 0 = B.segs.getD j 0
                  · have HQE := hid heq
                    rw [← heq] at s2
                    clear heq
                    generalize A.segs.getD j 0 = z at s1 s2 ⊢
                    go_wp2_with fail
                    go_quiet (fail)
                    have HQ2 := hid (HW2.out nq)
                    generalize wr.drewN nq = v2 at HQ2 ⊢
                    go_wp2_with fail
                    go_roundg (gk - 1)
                    case measure => omega
                    case rel => exact ⟨j + 1, by omega, by go_num, take_eq_succ HLJ.out.1 HLJ.out.2 HTJ.out HQE.out, HQ2.out⟩
                  · have HR0 := hid (HNE.out (fun h => heq (by rw [h])))
                    generalize A.segs.getD j 0 = z at *
                    generalize B.segs.getD j 0 = z' at *
                    have hzz : (z == z') = false := by simpa using heq
                    have hzn : (z != z') = true := by simpa using heq
                    clear heq
                    go_wp2_with fail
                    go_quiet (fail)
                    have HQ2 := hid (HB2.out nq)
                    generalize wr.drewN nq = v2 at HQ2 ⊢
                    go_wp2_with fail
                    go_ret
                    exact ⟨by rw [HR0.out]; rfl, HQ2.out⟩
                · have hji : ¬ (j : Int) < (n : Int) := by omega
                  obtain rfl : j = n := by omega
                  have HEE : Hid (∃ m, wr = v.drewN m) := ⟨m0, hwr⟩
                  clear hwr
                  go_wp2_with fail
                  go_roundg (G - 1)
                  case measure => omega
                  case rel =>
                    refine ⟨i + 1, by omega, by go_num, HNX.out ?_, HEE.out⟩
                    have hsg := take_eq_all HRW.out.2.1 HRW.out.2.2.2 HTJ.out
                    cases A
                    cases B
                    simp only [Lg.mk.injEq]
                    exact ⟨hsg, HEQ.out.1, HEQ.out.2⟩
            · have HR0 := hid (HNE.out (fun h => hn (by rw [← HRW.out.2.1, ← HRW.out.2.2.2, h])))
              have hnn : ((n : Int) == (n' : Int)) = false := by simp; omega
              have hnm : ((n : Int) != (n' : Int)) = true := by simp; omega
              rw [← hl] at k1
              rw [← hla] at k2
              clear hl hla hn
              generalize A.len = al at *
              generalize A.last = aa at *
              go_wp2_with fail
              go_quiet (fail)
              have HQ2 := hid (HWW.out nq)
              generalize wr.drewN nq = v2 at HQ2 ⊢
              go_wp2_with fail
              go_ret
              exact ⟨by rw [HR0.out]; rfl, HQ2.out⟩
          · have HR0 := hid (HNE.out (fun h => hla (by rw [h])))
            have hnn : ((A.last : Int) == (B.last : Int)) = false := by simp; omega
            have hnm : ((A.last : Int) != (B.last : Int)) = true := by simp; omega
            rw [← hl] at k1
            clear hl hla
            generalize A.len = al at *
            generalize A.last = aa at *
            generalize B.last = ab at *
            go_wp2_with fail
            go_quiet (fail)
            have HQ2 := hid (HWW.out nq)
            generalize wr.drewN nq = v2 at HQ2 ⊢
            go_wp2_with fail
            go_ret
            exact ⟨by rw [HR0.out]; rfl, HQ2.out⟩
        · have HR0 := hid (HNE.out (fun h => hl (by rw [h])))
          have hnn : (A.len == B.len) = false := by simpa using hl
          have hnm : (A.len != B.len) = true := by simpa using hl
          clear hl
          generalize A.len = al at *
          generalize B.len = bl at *
          go_wp2_with fail
          go_quiet (fail)
          have HQ2 := hid (HWW.out nq)
          generalize wr.drewN nq = v2 at HQ2 ⊢
          go_wp2_with fail
          go_ret
          exact ⟨by rw [HR0.out]; rfl, HQ2.out⟩
      · have hii : ¬ (i : Int) < 2 := by omega
        have HLE : Hid (LA = LB) := by
          have := HTK.out
          rwa [List.take_of_length_le (by rw [HLA.out]; omega), List.take_of_length_le (by rw [HLB.out]; omega)] at this
        have hq : wr.heap[q]? = some (.cells #[.int .i64 nb, .int .i64 bt, .slice aj nj cj, .int .i64 lj, .int .u32 (kj : Int), .slice ac nc cc, .int .i64 lc, .int .u32 (kc : Int)] 32 (0, 0)) := by rw [hwr]; exact HA.out.1
        have hr : wr.heap[q + 1]? = some (.cells #[.int .i64 nb', .int .i64 bt', .slice aj' nj' cj', .int .i64 lj', .int .u32 (kj' : Int), .slice ac' nc' cc', .int .i64 lc', .int .u32 (kc' : Int)] 27 (0, 0)) := by rw [hwr]; exact HA.out.2.1
        obtain ⟨e0, e1, e2, e3, e4, e5, e6, e7⟩ := cells8 hq
        obtain ⟨f0, f1, f2, f3, f4, f5, f6, f7⟩ := cells8 hr
        clear hwr htk e2 e3 e4 e5 e6 e7 f2 f3 f4 f5 f6 f7 hq hr
        by_cases b0 : nb = nb'
        · subst b0
          by_cases b1 : bt = bt'
          · subst b1
            have HR0 := hid (HT.out.2 ⟨rfl, rfl, HLE.out⟩)
            go_wp2_with fail
            go_ret
            exact ⟨by rw [HR0.out]; rfl, HBW.out⟩
          · have HR0 := hid (HF.out (fun h => b1 h.2.1))
            have b1' : (bt == bt') = false := by simpa using b1
            clear b1
            go_wp2_with fail
            go_ret
            exact ⟨by rw [HR0.out]; rfl, HBW.out⟩
        · have HR0 := hid (HF.out (fun h => b0 h.1))
          have b0' : (nb == nb') = false := by simpa using b0
          clear b0
          go_wp2_with fail
          go_ret
          exact ⟨by rw [HR0.out]; rfl, HBW.out⟩
end Go.Proofs.Ytmfmhlhpleahpaa
