/- SuperTorn: a slot that is written while power goes: the elder of both is there, or the new one, however it tears. No condition. -/
import Derived.Test.YtmfmhlhpleahpaaSupQ
namespace Go.Proofs.Ytmfmhlhpleahpaa
open Go.ChangeShapes Go.WideShapes Go.ChangeAt Go.RowKit Pen
open Crc (four nx)
open scoped Classical
set_option maxRecDepth 20000 in
set_option maxHeartbeats 8000000 in
theorem superTorn_walk (w : World) (c0 : Array Value) (a : Sp) (h0 : SupIn w (.agg c0) a) (c1 : Array Value) (b : Sp) (h1 : SupIn w (.agg c1) b) (ad : Option Addr) (len cap : Nat) (ch : List Nat) (hr : Row w ad ch) (hl : ch.length = len) :
    Calls Try.prog 6 #[.agg c0, .agg c1, .slice ad len cap] w fun e w' => e = .returned (.bool true) ∧ Below w.heap.size w w' := by
  have hnil := neq_nil
  obtain ⟨nb, bt, aj, nj, cj, lj, kj, ac, nc, cc, lc, kc, sj, sc, hv, -, hj, hnj, hc, hnc, hkj, hkc, hmj, hmc⟩ := h0
  obtain rfl : c0 = #[.int .i64 nb, .int .i64 bt, .slice aj nj cj, .int .i64 lj, .int .u32 (kj : Int), .slice ac nc cc, .int .i64 lc, .int .u32 (kc : Int)] := by simpa using hv
  clear hv
  obtain ⟨nb', bt', aj', nj', cj', lj', kj', ac', nc', cc', lc', kc', sj', sc', hv', -, hj', hnj', hc', hnc', hkj', hkc', hmj', hmc'⟩ := h1
  obtain rfl : c1 = #[.int .i64 nb', .int .i64 bt', .slice aj' nj' cj', .int .i64 lj', .int .u32 (kj' : Int), .slice ac' nc' cc', .int .i64 lc', .int .u32 (kc' : Int)] := by simpa using hv'
  clear hv'
  obtain ⟨A, hA⟩ : ∃ A : Sp, A = ⟨5, bt, ⟨sj, lj, kj⟩, ⟨sc, lc, kc⟩⟩ := ⟨_, rfl⟩
  obtain ⟨B, hB⟩ : ∃ B : Sp, B = ⟨6, bt', ⟨sj', lj', kj'⟩, ⟨sc', lc', kc'⟩⟩ := ⟨_, rfl⟩
  have HSA := hid hA
  have HSB := hid hB
  have HT2 := hid (Two.new w #[.int .i64 nb, .int .i64 bt, .slice aj nj cj, .int .i64 lj, .int .u32 (kj : Int), .slice ac nc cc, .int .i64 lc, .int .u32 (kc : Int)] #[.int .i64 nb', .int .i64 bt', .slice aj' nj' cj', .int .i64 lj', .int .u32 (kj' : Int), .slice ac' nc' cc', .int .i64 lc', .int .u32 (kc' : Int)])
  have HA := hid (And.intro hj (And.intro hnj (And.intro hc (And.intro hnc (And.intro hkj hkc)))))
  have HA' := hid (And.intro hj' (And.intro hnj' (And.intro hc' (And.intro hnc' (And.intro hkj' hkc')))))
  have HR := hid (And.intro hr hl)
  clear hj hnj hc hnc hkj hkc hmj hmc hj' hnj' hc' hnc' hkj' hkc' hmj' hmc' hA hB hr hl
  go_enter Try.func6, Try.ntmps6
  go_wp2_with fail
  generalize (w.alloc (.cells #[.int .i64 nb, .int .i64 bt, .slice aj nj cj, .int .i64 lj, .int .u32 (kj : Int), .slice ac nc cc, .int .i64 lc, .int .u32 (kc : Int)] 27)).alloc (.cells #[.int .i64 nb', .int .i64 bt', .slice aj' nj' cj', .int .i64 lj', .int .u32 (kj' : Int), .slice ac' nc' cc', .int .i64 lc', .int .u32 (kc' : Int)] 27) = w2 at HT2 ⊢
  refine (awake_any _).mono ?_
  rintro e w3 ⟨rfl, hb3⟩
  have HT3 := hid (HT2.out.below hb3)
  clear hb3 HT2
  obtain ⟨e0, e1, e2, e3, e4, e5, e6, e7⟩ := cells8 HT3.out.bx
  obtain ⟨f0, f1, f2, f3, f4, f5, f6, f7⟩ := cells8 HT3.out.bY
  have HFR := HT3.out.fr
  obtain ⟨z0, z1⟩ := HFR
  obtain ⟨qq, hqq⟩ : ∃ qq, w.heap.size = qq := ⟨_, rfl⟩
  rw [hqq] at e0 e1 e2 e3 e4 e5 e6 e7 f0 f1 f2 f3 f4 f5 f6 f7 z0 z1 ⊢
  have HWQ := hid hqq
  clear hqq
  by_cases l0 : 100 < len
  · have g0 : (100 : Int) < (len : Int) := by omega
    go_wp2_with fail
    go_ret
    exact ⟨rfl, HT3.out.low⟩
  by_cases l1 : 100 < nj
  · have g0 : ¬ (100 : Int) < (len : Int) := by omega
    have g1 : (100 : Int) < (nj : Int) := by omega
    go_wp2_with fail
    go_ret
    exact ⟨rfl, HT3.out.low⟩
  by_cases l2 : 100 < nj'
  · have g0 : ¬ (100 : Int) < (len : Int) := by omega
    have g1 : ¬ (100 : Int) < (nj : Int) := by omega
    have g2 : (100 : Int) < (nj' : Int) := by omega
    go_wp2_with fail
    go_ret
    exact ⟨rfl, HT3.out.low⟩
  by_cases l3 : 100 < nc
  · have g0 : ¬ (100 : Int) < (len : Int) := by omega
    have g1 : ¬ (100 : Int) < (nj : Int) := by omega
    have g2 : ¬ (100 : Int) < (nj' : Int) := by omega
    have g3 : (100 : Int) < (nc : Int) := by omega
    go_wp2_with fail
    go_ret
    exact ⟨rfl, HT3.out.low⟩
  by_cases l4 : 100 < nc'
  · have g0 : ¬ (100 : Int) < (len : Int) := by omega
    have g1 : ¬ (100 : Int) < (nj : Int) := by omega
    have g2 : ¬ (100 : Int) < (nj' : Int) := by omega
    have g3 : ¬ (100 : Int) < (nc : Int) := by omega
    have g4 : (100 : Int) < (nc' : Int) := by omega
    go_wp2_with fail
    go_ret
    exact ⟨rfl, HT3.out.low⟩
  have g0 : ¬ (100 : Int) < (len : Int) := by omega
  have g1 : ¬ (100 : Int) < (nj : Int) := by omega
  have g2 : ¬ (100 : Int) < (nj' : Int) := by omega
  have g3 : ¬ (100 : Int) < (nc : Int) := by omega
  have g4 : ¬ (100 : Int) < (nc' : Int) := by omega
  go_wp2_with fail
  refine (new8 _).mono ?_
  rintro e w4 ⟨q, rfl, p, hd4, hb4, hq4, hp4⟩
  have HT4 := hid (HT3.out.below hb4)
  have HQP : Hid (w.heap.size + 2 ≤ q ∧ w.heap.size + 2 ≤ p) := by have := HT3.out.sz; show _ ∧ _; omega
  have HD4 := hid hd4
  clear hd4 hb4 hq4 hp4 HT3 e0 e1 e2 e3 e4 e5 e6 e7 f0 f1 f2 f3 f4 f5 f6 f7 z0 z1
  obtain ⟨e0, e1, e2, e3, e4, e5, e6, e7⟩ := cells8 HT4.out.bx
  obtain ⟨f0, f1, f2, f3, f4, f5, f6, f7⟩ := cells8 HT4.out.bY
  obtain ⟨z0, z1⟩ := HT4.out.fr
  have HT5 := hid (HT4.out.set (.int .i64 5) (.int .i64 6))
  have HD5 : Hid (DiskAt ((w4.setCell ⟨w.heap.size, 0, none⟩ (.int .i64 5)).setCell ⟨w.heap.size + 1, 0, none⟩ (.int .i64 6)) q p (fresh 8)) := by
    obtain ⟨z, d1, d2, d3, d4, d5⟩ := HD4.out
    have b1 : ∀ k, w.heap.size + 2 ≤ k → ((w4.setCell ⟨w.heap.size, 0, none⟩ (.int .i64 5)).setCell ⟨w.heap.size + 1, 0, none⟩ (.int .i64 6)).heap[k]? = w4.heap[k]? := fun k hk => (Below.heap_setCell _ _ _ _ (by dsimp only; omega)).trans (Below.heap_setCell _ _ _ _ (by dsimp only; omega))
    exact ⟨z, (b1 q HQP.out.1).trans d1, (b1 p HQP.out.2).trans d2, d3, d4, d5⟩
  rw [HWQ.out] at e0 e1 e2 e3 e4 e5 e6 e7 f0 f1 f2 f3 f4 f5 f6 f7 z0 z1
  rw [HWQ.out] at HD5
  have hT5e := HT5.out
  have hT5n : Two w #[.int .i64 5, .int .i64 bt, .slice aj nj cj, .int .i64 lj, .int .u32 (kj : Int), .slice ac nc cc, .int .i64 lc, .int .u32 (kc : Int)] #[.int .i64 6, .int .i64 bt', .slice aj' nj' cj', .int .i64 lj', .int .u32 (kj' : Int), .slice ac' nc' cc', .int .i64 lc', .int .u32 (kc' : Int)] ((w4.setCell ⟨w.heap.size, 0, none⟩ (.int .i64 5)).setCell ⟨w.heap.size + 1, 0, none⟩ (.int .i64 6)) := hT5e
  have HT5 := hid hT5n
  have hcx := cells8 hT5n.bx
  have hcy := cells8 hT5n.bY
  rw [HWQ.out] at hcx hcy
  clear hT5e hT5n HT4 HD4
  have HMA := fun W (hW : Below w.heap.size w W) => refMay_any W 5 bt aj nj cj lj kj ac nc cc lc kc sj sc (HA.out.1.below hW) HA.out.2.1 (HA.out.2.2.1.below hW) HA.out.2.2.2.1 (by omega) 96 A HSA.out
  have HMB := fun W (hW : Below w.heap.size w W) => refMay_any W 6 bt' aj' nj' cj' lj' kj' ac' nc' cc' lc' kc' sj' sc' (HA'.out.1.below hW) HA'.out.2.1 (HA'.out.2.2.1.below hW) HA'.out.2.2.2.1 (by omega) 96 B HSB.out
  have HMA := hid HMA
  have HMB := hid HMB
  have HGS := hid (And.intro g0 (And.intro g1 (And.intro g2 (And.intro g3 g4))))
  go_wp2_with fail
  rw [HWQ.out] at HT5
  generalize (w4.setCell ⟨qq, 0, none⟩ (.int .i64 5)).setCell ⟨qq + 1, 0, none⟩ (.int .i64 6) = w5 at HT5 HD5 ⊢
  clear hcx hcy e0 e1 e2 e3 e4 e5 e6 e7 f0 f1 f2 f3 f4 f5 f6 f7 z0 z1 g0 g1 g2 g3 g4
  cases hra : A.refMay 96
  · rw [hra] at HMA
    clear hra
    refine (HMA.out _ HT5.out.low).mono ?_
    rintro e w6 ⟨rfl, hb6⟩
    have HT6 := hid (HT5.out.below hb6)
    clear hb6
    go_wp2_with fail
    go_ret
    exact ⟨rfl, HT6.out.low⟩
  have HOA := hid ((refMay96 A).1 hra)
  rw [hra] at HMA
  clear hra
  refine (HMA.out _ HT5.out.low).mono ?_
  rintro e w6 ⟨rfl, hb6⟩
  have HT6 := hid (HT5.out.below hb6)
  have HD6 := hid (HD5.out.below hb6)
  clear hb6 HT5 HD5 HMA
  obtain ⟨f0, f1, f2, f3, f4, f5, f6, f7⟩ := cells8 HT6.out.bY
  rw [HWQ.out] at f0 f1 f2 f3 f4 f5 f6 f7
  cases hrb : B.refMay 96
  · rw [hrb] at HMB
    clear hrb
    go_wp2_with fail
    refine (HMB.out _ HT6.out.low).mono ?_
    rintro e w7 ⟨rfl, hb7⟩
    have HT7 := hid (HT6.out.below hb7)
    clear hb7
    go_wp2_with fail
    go_ret
    exact ⟨rfl, HT7.out.low⟩
  have HOB := hid ((refMay96 B).1 hrb)
  rw [hrb] at HMB
  clear hrb
  go_wp2_with fail
  refine (HMB.out _ HT6.out.low).mono ?_
  rintro e w7 ⟨rfl, hb7⟩
  have HT7 := hid (HT6.out.below hb7)
  have HD7 := hid (HD6.out.below hb7)
  clear hb7 HT6 HD6 HMB f0 f1 f2 f3 f4 f5 f6 f7
  obtain ⟨e0, e1, e2, e3, e4, e5, e6, e7⟩ := cells8 HT7.out.bx
  rw [HWQ.out] at e0 e1 e2 e3 e4 e5 e6 e7
  go_wp2_with fail
  refine (made_any _ 5 bt aj nj cj lj kj ac nc cc lc kc).mono ?_
  rintro e w8 ⟨rfl, hb8⟩
  have HT8 := hid (HT7.out.below hb8)
  have HD8 := hid (HD7.out.below hb8)
  clear hb8 HT7 HD7 e0 e1 e2 e3 e4 e5 e6 e7
  unfold spV
  go_wp2_with fail
  refine (writeS_ok HD8.out rfl rfl (by decide) 0 (by decide) (by rw [(fresh_rest 8).1]; decide) 5 bt aj nj cj lj kj ac nc cc lc kc sj sc (HA.out.1.below HT8.out.low) HA.out.2.1 (by have := HGS.out; omega) (HA.out.2.2.1.below HT8.out.low) HA.out.2.2.2.1 (by have := HGS.out; omega) HA.out.2.2.2.2.1 HA.out.2.2.2.2.2 A HSA.out HOA.out).mono ?_
  rintro e w9 ⟨rfl, hd9, ho9⟩
  have HT9 := hid (HT8.out.only ho9 HQP.out.1 HQP.out.2)
  have HD9 := hid hd9
  clear hd9 ho9 HT8 HD8
  go_wp2_with fail
  have kf := flush_any HD9.out (by show 4 < 1000000000; decide)
  rw [flush_free rfl rfl] at kf
  refine kf.mono ?_
  rintro e w10 ⟨rfl, hd10, ho10⟩
  have HT10 := hid (HT9.out.only ho10 HQP.out.1 HQP.out.2)
  have HD10 : Hid (DiskAt w10 q p (layFrom 0 A.bytes 4 (fresh 8)).flushed) := hd10
  clear hd10 ho10 HT9 HD9 kf
  obtain ⟨f0, f1, f2, f3, f4, f5, f6, f7⟩ := cells8 HT10.out.bY
  rw [HWQ.out] at f0 f1 f2 f3 f4 f5 f6 f7
  go_wp2_with fail
  refine (made_any _ 6 bt' aj' nj' cj' lj' kj' ac' nc' cc' lc' kc').mono ?_
  rintro e w11 ⟨rfl, hb11⟩
  have HT11 := hid (HT10.out.below hb11)
  have HD11 := hid (HD10.out.below hb11)
  clear hb11 HT10 HD10 f0 f1 f2 f3 f4 f5 f6 f7
  unfold spV
  go_wp2_with fail
  have hlen8 : ((layFrom 0 A.bytes 4 (fresh 8)).flushed).secs.length = 8 := by
    show ((layFrom 0 A.bytes 4 (fresh 8)).secs.map clean).length = 8
    rw [List.length_map, layFrom_len]
    exact (fresh_rest 8).1
  refine (writeS_ok HD11.out rfl rfl (by show 5 ≤ 1000000; decide) 1 (by decide) (by rw [hlen8]; decide) 6 bt' aj' nj' cj' lj' kj' ac' nc' cc' lc' kc' sj' sc' (HA'.out.1.below HT11.out.low) HA'.out.2.1 (by have := HGS.out; omega) (HA'.out.2.2.1.below HT11.out.low) HA'.out.2.2.2.1 (by have := HGS.out; omega) HA'.out.2.2.2.2.1 HA'.out.2.2.2.2.2 B HSB.out HOB.out).mono ?_
  rintro e w12 ⟨rfl, hd12, ho12⟩
  have HT12 := hid (HT11.out.only ho12 HQP.out.1 HQP.out.2)
  have HD12 : Hid (DiskAt w12 q p (tornDisk A.bytes B.bytes)) := hd12
  clear hd12 ho12 HT11 HD11 hlen8
  go_wp2_with fail
  refine (crash_any HD12.out ad ch len cap (HR.out.1.below HT12.out.low) HR.out.2 (by have := HGS.out; omega)).mono ?_
  rintro e w13 ⟨q2, rfl, p2, hd13, hb13, -, -⟩
  have HT13 := hid (HT12.out.below hb13)
  have HD13 := hid hd13
  clear hd13 hb13 HT12 HD12
  go_wp2_with fail
  refine (bestS_ok HD13.out rfl (by rw [show (((tornDisk A.bytes B.bytes).crash ch).secs.length) = (tornDisk A.bytes B.bytes).secs.length by simp [Dk.crash, crashL], tornDisk_len]; decide) 96).mono ?_
  rintro e w14 ⟨hbst, hb14⟩
  have HT14 := hid (HT13.out.below hb14)
  clear hb14 HT13 HD13
  have hor := torn_best HOA.out HOB.out (by rw [HSA.out]) (by rw [HSB.out]) (by rw [HSA.out]; exact HA.out.2.2.2.2.1) (by rw [HSA.out]; exact HA.out.2.2.2.2.2) (by rw [HSB.out]; exact HA'.out.2.2.2.2.1) (by rw [HSB.out]; exact HA'.out.2.2.2.2.2) ch HR.out.1.1
  rcases hor with hor | hor
  · rw [hor] at hbst
    obtain ⟨xj, yj, zj, xc, yc, zc, rfl, h1, h2, h3, h4, -, -⟩ := hbst
    have HX := hid (And.intro h1 (And.intro h2 (And.intro h3 h4)))
    clear h1 h2 h3 h4 hor
    obtain ⟨SN, hSN⟩ : ∃ S : Sp, A = S := ⟨_, rfl⟩
    rw [hSN] at HX ⊢
    have HSN := hid hSN
    have HLN : Hid (SN.j.segs.length ≤ 1000 ∧ SN.c.segs.length ≤ 1000) := by have hf := HOA.out.few; show _ ∧ _; rw [← hSN]; omega
    clear hSN
    obtain ⟨nbS, btS, ⟨sjS, ljS, kjS⟩, ⟨scS, lcS, kcS⟩⟩ := SN
    dsimp only at HX ⊢
    have hbal : Below w14.heap.size w14 (w14.alloc (.cells #[.int .i64 nbS, .int .i64 btS, .slice xj yj zj, .int .i64 ljS, .int .u32 (kjS : Int), .slice xc yc zc, .int .i64 lcS, .int .u32 (kcS : Int)] 32)) := (Below.refl _ _).alloc (Nat.le_refl _) _
    have HT15 := hid (HT14.out.below hbal)
    have HXB : Hid ((w14.alloc (.cells #[.int .i64 nbS, .int .i64 btS, .slice xj yj zj, .int .i64 ljS, .int .u32 (kjS : Int), .slice xc yc zc, .int .i64 lcS, .int .u32 (kcS : Int)] 32)).heap[w14.heap.size]? = some (.cells #[.int .i64 nbS, .int .i64 btS, .slice xj yj zj, .int .i64 ljS, .int .u32 (kjS : Int), .slice xc yc zc, .int .i64 lcS, .int .u32 (kcS : Int)] 32 (0, 0))) := heap_alloc_new _ _
    have HXL : Hid (w14.heap.size < (w14.alloc (.cells #[.int .i64 nbS, .int .i64 btS, .slice xj yj zj, .int .i64 ljS, .int .u32 (kjS : Int), .slice xc yc zc, .int .i64 lcS, .int .u32 (kcS : Int)] 32)).heap.size) := by show _ < _; simp
    have HXJ := hid (HX.out.2.2.1.below hbal)
    have HXC := hid (HX.out.2.2.2.below hbal)
    obtain ⟨e0, e1, e2, e3, e4, e5, e6, e7⟩ := cells8 HT15.out.bx
    rw [HWQ.out] at e0 e1 e2 e3 e4 e5 e6 e7
    have hsz14 := HT14.out.sz
    rw [HWQ.out] at hsz14
    clear hbal HT14
    go_wp2_with fail
    generalize w14.alloc (.cells #[.int .i64 nbS, .int .i64 btS, .slice xj yj zj, .int .i64 ljS, .int .u32 (kjS : Int), .slice xc yc zc, .int .i64 lcS, .int .u32 (kcS : Int)] 32) = w15 at HT15 HXB HXL HXJ HXC ⊢
    generalize w14.heap.size = xb at HXB HXL ⊢
    refine (same_any w15 nbS btS xj yj zj ljS kjS xc yc zc lcS kcS sjS scS 5 bt aj nj cj lj kj ac nc cc lc kc sj sc HXJ.out HX.out.1 HXC.out HX.out.2.1 (by have := HLN.out; have := HX.out.1; omega) (by have := HLN.out; have := HX.out.2.1; omega) (HA.out.1.below HT15.out.low) HA.out.2.1 (HA.out.2.2.1.below HT15.out.low) HA.out.2.2.2.1 (by have := HGS.out; omega) (by have := HGS.out; omega) ⟨nbS, btS, ⟨sjS, ljS, kjS⟩, ⟨scS, lcS, kcS⟩⟩ A rfl HSA.out).mono ?_
    rintro e w16 ⟨rfl, hb16⟩
    rw [show decide ((⟨nbS, btS, ⟨sjS, ljS, kjS⟩, ⟨scS, lcS, kcS⟩⟩ : Sp) = A) = true from decide_eq_true HSN.out.symm]
    have HT16 := hid (HT15.out.below hb16)
    clear hb16
    go_wp2_with fail
    go_ret
    exact ⟨rfl, HT16.out.low⟩
  · rw [hor] at hbst
    obtain ⟨xj, yj, zj, xc, yc, zc, rfl, h1, h2, h3, h4, -, -⟩ := hbst
    have HX := hid (And.intro h1 (And.intro h2 (And.intro h3 h4)))
    clear h1 h2 h3 h4 hor
    obtain ⟨SN, hSN⟩ : ∃ S : Sp, B = S := ⟨_, rfl⟩
    rw [hSN] at HX ⊢
    have HSN := hid hSN
    have HLN : Hid (SN.j.segs.length ≤ 1000 ∧ SN.c.segs.length ≤ 1000) := by have hf := HOB.out.few; show _ ∧ _; rw [← hSN]; omega
    clear hSN
    obtain ⟨nbS, btS, ⟨sjS, ljS, kjS⟩, ⟨scS, lcS, kcS⟩⟩ := SN
    dsimp only at HX ⊢
    have hbal : Below w14.heap.size w14 (w14.alloc (.cells #[.int .i64 nbS, .int .i64 btS, .slice xj yj zj, .int .i64 ljS, .int .u32 (kjS : Int), .slice xc yc zc, .int .i64 lcS, .int .u32 (kcS : Int)] 32)) := (Below.refl _ _).alloc (Nat.le_refl _) _
    have HT15 := hid (HT14.out.below hbal)
    have HXB : Hid ((w14.alloc (.cells #[.int .i64 nbS, .int .i64 btS, .slice xj yj zj, .int .i64 ljS, .int .u32 (kjS : Int), .slice xc yc zc, .int .i64 lcS, .int .u32 (kcS : Int)] 32)).heap[w14.heap.size]? = some (.cells #[.int .i64 nbS, .int .i64 btS, .slice xj yj zj, .int .i64 ljS, .int .u32 (kjS : Int), .slice xc yc zc, .int .i64 lcS, .int .u32 (kcS : Int)] 32 (0, 0))) := heap_alloc_new _ _
    have HXL : Hid (w14.heap.size < (w14.alloc (.cells #[.int .i64 nbS, .int .i64 btS, .slice xj yj zj, .int .i64 ljS, .int .u32 (kjS : Int), .slice xc yc zc, .int .i64 lcS, .int .u32 (kcS : Int)] 32)).heap.size) := by show _ < _; simp
    have HXJ := hid (HX.out.2.2.1.below hbal)
    have HXC := hid (HX.out.2.2.2.below hbal)
    obtain ⟨e0, e1, e2, e3, e4, e5, e6, e7⟩ := cells8 HT15.out.bx
    rw [HWQ.out] at e0 e1 e2 e3 e4 e5 e6 e7
    have hsz14 := HT14.out.sz
    rw [HWQ.out] at hsz14
    clear hbal HT14
    go_wp2_with fail
    generalize w14.alloc (.cells #[.int .i64 nbS, .int .i64 btS, .slice xj yj zj, .int .i64 ljS, .int .u32 (kjS : Int), .slice xc yc zc, .int .i64 lcS, .int .u32 (kcS : Int)] 32) = w15 at HT15 HXB HXL HXJ HXC ⊢
    generalize w14.heap.size = xb at HXB HXL ⊢
    refine (same_any w15 nbS btS xj yj zj ljS kjS xc yc zc lcS kcS sjS scS 5 bt aj nj cj lj kj ac nc cc lc kc sj sc HXJ.out HX.out.1 HXC.out HX.out.2.1 (by have := HLN.out; have := HX.out.1; omega) (by have := HLN.out; have := HX.out.2.1; omega) (HA.out.1.below HT15.out.low) HA.out.2.1 (HA.out.2.2.1.below HT15.out.low) HA.out.2.2.2.1 (by have := HGS.out; omega) (by have := HGS.out; omega) ⟨nbS, btS, ⟨sjS, ljS, kjS⟩, ⟨scS, lcS, kcS⟩⟩ A rfl HSA.out).mono ?_
    rintro e w16 ⟨rfl, hb16⟩
    rw [show decide ((⟨nbS, btS, ⟨sjS, ljS, kjS⟩, ⟨scS, lcS, kcS⟩⟩ : Sp) = A) = false from decide_eq_false (fun h => by have h6 := HSN.out; rw [HSB.out] at h6; rw [HSA.out] at h; rw [← h6] at h; injection h with h7; omega)]
    have HT16 := hid (HT15.out.below hb16)
    have HXB16 := hid ((hb16.block _ HXL.out).trans HXB.out)
    have HXJ16 := hid (HXJ.out.below hb16)
    have HXC16 := hid (HXC.out.below hb16)
    clear hb16 e0 e1 e2 e3 e4 e5 e6 e7 HT15 HXB HXJ HXC
    obtain ⟨e0, e1, e2, e3, e4, e5, e6, e7⟩ := cells8 HXB16.out
    obtain ⟨f0, f1, f2, f3, f4, f5, f6, f7⟩ := cells8 HT16.out.bY
    rw [HWQ.out] at f0 f1 f2 f3 f4 f5 f6 f7
    go_wp2_with fail
    refine (same_any w16 nbS btS xj yj zj ljS kjS xc yc zc lcS kcS sjS scS 6 bt' aj' nj' cj' lj' kj' ac' nc' cc' lc' kc' sj' sc' HXJ16.out HX.out.1 HXC16.out HX.out.2.1 (by have := HLN.out; have := HX.out.1; omega) (by have := HLN.out; have := HX.out.2.1; omega) (HA'.out.1.below HT16.out.low) HA'.out.2.1 (HA'.out.2.2.1.below HT16.out.low) HA'.out.2.2.2.1 (by have := HGS.out; omega) (by have := HGS.out; omega) ⟨nbS, btS, ⟨sjS, ljS, kjS⟩, ⟨scS, lcS, kcS⟩⟩ B rfl HSB.out).mono ?_
    rintro e w17 ⟨rfl, hb17⟩
    rw [show decide ((⟨nbS, btS, ⟨sjS, ljS, kjS⟩, ⟨scS, lcS, kcS⟩⟩ : Sp) = B) = true from decide_eq_true HSN.out.symm]
    have HT17 := hid (HT16.out.below hb17)
    clear hb17
    go_wp2_with fail
    go_ret
    exact ⟨rfl, HT17.out.low⟩
set_option linter.unusedVariables false
set_option maxRecDepth 100000 in
theorem superTorn_lifted (os : Os) (started : os.Started) (H : Type) (enc : TypeId × Value → H) :
    ReturnsInHanded {} Try.checked os 6 .any (Rows.superTornSpec.pre6 enc Try.prog Try.f6 Rows.superTornRow.domain false) (Rows.superTornSpec.post enc Try.prog Try.f6 false true false false) := by
  refine returnsInHanded_of_change (C := Try.checked) laws_own started (by kernel_rfl) Try.func6
    (ChangeSpec.witness6 (enc := enc) (C := Try.checked) false ⟨#[], #[.agg #[.int .i64 0, .int .i64 0, .slice none 0 0, .int .i64 0, .int .u32 0, .slice none 0 0, .int .i64 0, .int .u32 0], .agg #[.int .i64 0, .int .i64 0, .slice none 0 0, .int .i64 0, .int .u32 0, .slice none 0 0, .int .i64 0, .int .u32 0], .slice none 0 0], []⟩ 8 (by kernel_rfl) (by kernel_rfl) (by kernel_rfl) (by kernel_rfl)) ?_
  intro W base args ds gs before hval0 hW hcnd _
  have hval : ∀ (j : Nat) t v, Try.f6.params[j]? = some t → args[j]? = some v → Value.okWide Try.prog W .any base t v := hval0
  have hW' := hW
  obtain ⟨p, q, hA0, hV, rfl, hfz, hnd⟩ := hW
  have hA : DataW.TrodAll enc Try.prog W 0 (fun _ => true) true Try.f6.params.toList args.toList ds p := hA0
  rw [Try.params6] at hA hval
  obtain ⟨v0, vs0, d0, ds0, p0, q0, hargs, rfl, rfl, h0, r0⟩ := trodAll_cons hA
  obtain ⟨v1, vs1, d1, ds1, p1, q1, rfl, rfl, rfl, h1, r1⟩ := trodAll_cons r0
  obtain ⟨v2, vs2, d2, ds2, p2, q2, rfl, rfl, rfl, h2, r2⟩ := trodAll_cons r1
  obtain ⟨rfl, rfl, rfl⟩ := trodAll_nil r2
  obtain rfl : args = #[v0, v1, v2] := by cases args; simp_all
  obtain ⟨rfl, rfl⟩ := trodVars_none hV
  obtain ⟨c0, rfl, _⟩ := okWide_struct Try.underlying27 (hval 0 27 v0 rfl rfl)
  have k0 := h0
  have lt0 : ∀ x ∈ p0, x.block < W.heap.size := by obtain ⟨m, hm⟩ := k0; exact DataW.trod_lt m _ _ _ hm
  obtain ⟨s0, hs0⟩ : ∃ s, SupIn W (.agg c0) s := by
    obtain ⟨fuel, hf⟩ := h0
    exact sup_of hf
  obtain ⟨c1, rfl, _⟩ := okWide_struct Try.underlying27 (hval 1 27 v1 rfl rfl)
  have k1 := h1
  have lt1 : ∀ x ∈ p1, x.block < W.heap.size := by obtain ⟨m, hm⟩ := k1; exact DataW.trod_lt m _ _ _ hm
  obtain ⟨s1, hs1⟩ : ∃ s, SupIn W (.agg c1) s := by
    obtain ⟨fuel, hf⟩ := h1
    exact sup_of hf
  obtain ⟨a2, len2, cap2, rfl⟩ := okWide_slice Try.underlying35 (hval 2 35 v2 rfl rfl)
  have k2 := h2
  have lt2 : ∀ x ∈ p2, x.block < W.heap.size := by obtain ⟨m, hm⟩ := k2; exact DataW.trod_lt m _ _ _ hm
  obtain ⟨l2, hl2, hr2⟩ : ∃ l, l.length = len2 ∧ Row W a2 l := by
    obtain ⟨fuel, hf⟩ := h2
    exact rows_of hf
  clear hA0 hval0
  refine (superTorn_walk W c0 s0 hs0 c1 s1 hs1 a2 len2 cap2 l2 hr2 hl2).mono fun e W' ⟨he, bel⟩ => ?_
  subst he
  exact ⟨_, rfl, _, _, _, [], _, [], hW', trodAll_mk1 (shut_bool Try.underlying4 _), (trodAll_cons_mk (Below.trod laws_laid (by kernel_rfl) (of_decide_eq_true (by kernel_rfl)) k0 bel lt0) (trodAll_cons_mk (Below.trod laws_laid (by kernel_rfl) (of_decide_eq_true (by kernel_rfl)) k1 bel lt1) (trodAll_cons_mk (Below.trod laws_laid (by kernel_rfl) (of_decide_eq_true (by kernel_rfl)) k2 bel lt2) trodAll_mk0))), rfl, bel.frame _, fun h => by cases h⟩

theorem superTorn_over : Rows.superTornRow.holds Try.pinned (OpenSpec.ofChange Rows.superTornSpec) :=
  OpenClaim.holds_of_wide 6 Try.f6 rfl rfl rfl rfl rfl rfl rfl ⟨rfl, rfl, rfl, rfl, rfl⟩ rfl rfl rfl rfl rfl (by kernel_rfl) Try.func6 (by kernel_rfl)
    (of_decide_eq_true (by kernel_rfl)) (by unfold Func.isWrapper; first | (rw [if_pos (by decide +kernel)]; kernel_rfl) | (rw [if_neg (by decide +kernel)]; exact ⟨rfl, rfl⟩))
    (fun os started H enc _ => superTorn_lifted os started H enc)
theorem superTorn_holds : Rows.SuperTornSaid := superTorn_over
#print axioms superTorn_holds
end Go.Proofs.Ytmfmhlhpleahpaa
