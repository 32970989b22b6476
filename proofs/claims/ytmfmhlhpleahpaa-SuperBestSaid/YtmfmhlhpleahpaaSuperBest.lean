/- SuperBest: of two slots the greater one that can be read; with bytes turned in one the other; with both turned none. No condition. -/
import Derived.Test.YtmfmhlhpleahpaaSupV
namespace Go.Proofs.Ytmfmhlhpleahpaa
open Go.ChangeShapes Go.WideShapes Go.ChangeAt Go.RowKit Pen
open Crc (four nx)
open scoped Classical
set_option maxRecDepth 40000 in
set_option maxHeartbeats 16000000 in
theorem superBest_walk (w : World) (c0 : Array Value) (a : Sp) (h0 : SupIn w (.agg c0) a) (c1 : Array Value) (b : Sp) (h1 : SupIn w (.agg c1) b) (tv : Nat → Nat) (htv : ∀ i, tv i < 65536) :
    Calls Try.prog 4 #[.agg c0, .agg c1, .agg #[.int .u16 (tv 0 : Nat), .int .u16 (tv 1 : Nat), .int .u16 (tv 2 : Nat), .int .u16 (tv 3 : Nat)]] w fun e w' => e = .returned (.bool true) ∧ Below w.heap.size w w' := by
  have hnil := neq_nil
  obtain ⟨nb, bt, aj, nj, cj, lj, kj, ac, nc, cc, lc, kc, sj, sc, hv, hs, hj, hnj, hc, hnc, hkj, hkc, hmj, hmc⟩ := h0
  obtain rfl : c0 = #[.int .i64 nb, .int .i64 bt, .slice aj nj cj, .int .i64 lj, .int .u32 (kj : Int), .slice ac nc cc, .int .i64 lc, .int .u32 (kc : Int)] := by simpa using hv
  clear hv
  obtain ⟨nb', bt', aj', nj', cj', lj', kj', ac', nc', cc', lc', kc', sj', sc', hv', hs', hj', hnj', hc', hnc', hkj', hkc', hmj', hmc'⟩ := h1
  obtain rfl : c1 = #[.int .i64 nb', .int .i64 bt', .slice aj' nj' cj', .int .i64 lj', .int .u32 (kj' : Int), .slice ac' nc' cc', .int .i64 lc', .int .u32 (kc' : Int)] := by simpa using hv'
  clear hv'
  have HSA := hid hs
  have HSB := hid hs'
  have HT2 := hid (Tri.new w #[.int .i64 nb, .int .i64 bt, .slice aj nj cj, .int .i64 lj, .int .u32 (kj : Int), .slice ac nc cc, .int .i64 lc, .int .u32 (kc : Int)] #[.int .i64 nb', .int .i64 bt', .slice aj' nj' cj', .int .i64 lj', .int .u32 (kj' : Int), .slice ac' nc' cc', .int .i64 lc', .int .u32 (kc' : Int)] #[.int .u16 (tv 0 : Nat), .int .u16 (tv 1 : Nat), .int .u16 (tv 2 : Nat), .int .u16 (tv 3 : Nat)])
  have HA := hid (And.intro hj (And.intro hnj (And.intro hc (And.intro hnc (And.intro hkj hkc)))))
  have HA' := hid (And.intro hj' (And.intro hnj' (And.intro hc' (And.intro hnc' (And.intro hkj' hkc')))))
  have HTV := hid htv
  clear hj hnj hc hnc hkj hkc hmj hmc hj' hnj' hc' hnc' hkj' hkc' hmj' hmc' hs hs' htv
  go_enter Try.func4, Try.ntmps4
  go_wp2_with fail
  generalize ((w.alloc (.cells #[.int .i64 nb, .int .i64 bt, .slice aj nj cj, .int .i64 lj, .int .u32 (kj : Int), .slice ac nc cc, .int .i64 lc, .int .u32 (kc : Int)] 27)).alloc (.cells #[.int .i64 nb', .int .i64 bt', .slice aj' nj' cj', .int .i64 lj', .int .u32 (kj' : Int), .slice ac' nc' cc', .int .i64 lc', .int .u32 (kc' : Int)] 27)).alloc (.cells #[.int .u16 (tv 0 : Nat), .int .u16 (tv 1 : Nat), .int .u16 (tv 2 : Nat), .int .u16 (tv 3 : Nat)] 44) = w2 at HT2 ⊢
  refine (awake_any _).mono ?_
  rintro e w3 ⟨rfl, hb3⟩
  have HT3 := hid (HT2.out.below hb3)
  clear hb3 HT2
  go_wp2_with fail
  refine (new8 _).mono ?_
  rintro e w4 ⟨q, rfl, p, hd4, hb4, hq4, hp4⟩
  have HT4 := hid (HT3.out.below hb4)
  have HQP : Hid (w.heap.size + 3 ≤ q ∧ w.heap.size + 3 ≤ p) := by have := HT3.out.sz; show _ ∧ _; omega
  have HD4 := hid hd4
  clear hd4 hb4 hq4 hp4 HT3
  obtain ⟨e0, e1, e2, e3, e4, e5, e6, e7⟩ := cells8 HT4.out.two.bx
  obtain ⟨f0, f1, f2, f3, f4, f5, f6, f7⟩ := cells8 HT4.out.two.bY
  obtain ⟨qq, hqq⟩ : ∃ qq, w.heap.size = qq := ⟨_, rfl⟩
  rw [hqq] at e0 e1 e2 e3 e4 e5 e6 e7 f0 f1 f2 f3 f4 f5 f6 f7 ⊢
  have HWQ := hid hqq
  clear hqq
  by_cases l0 : 300 < nj
  · have g0 : (300 : Int) < (nj : Int) := by omega
    go_wp2_with fail
    go_ret
    exact ⟨rfl, HT4.out.two.low⟩
  by_cases l1 : 300 < nc
  · have g0 : ¬ (300 : Int) < (nj : Int) := by omega
    have g1 : (300 : Int) < (nc : Int) := by omega
    go_wp2_with fail
    go_ret
    exact ⟨rfl, HT4.out.two.low⟩
  by_cases l2 : 300 < nj'
  · have g0 : ¬ (300 : Int) < (nj : Int) := by omega
    have g1 : ¬ (300 : Int) < (nc : Int) := by omega
    have g2 : (300 : Int) < (nj' : Int) := by omega
    go_wp2_with fail
    go_ret
    exact ⟨rfl, HT4.out.two.low⟩
  by_cases l3 : 300 < nc'
  · have g0 : ¬ (300 : Int) < (nj : Int) := by omega
    have g1 : ¬ (300 : Int) < (nc : Int) := by omega
    have g2 : ¬ (300 : Int) < (nj' : Int) := by omega
    have g3 : (300 : Int) < (nc' : Int) := by omega
    go_wp2_with fail
    go_ret
    exact ⟨rfl, HT4.out.two.low⟩
  have g0 : ¬ (300 : Int) < (nj : Int) := by omega
  have g1 : ¬ (300 : Int) < (nc : Int) := by omega
  have g2 : ¬ (300 : Int) < (nj' : Int) := by omega
  have g3 : ¬ (300 : Int) < (nc' : Int) := by omega
  have HGS := hid (And.intro g0 (And.intro g1 (And.intro g2 g3)))
  have HMA := fun W (hW : Below w.heap.size w W) => refMay_any W nb bt aj nj cj lj kj ac nc cc lc kc sj sc (HA.out.1.below hW) HA.out.2.1 (HA.out.2.2.1.below hW) HA.out.2.2.2.1 (by omega) 96 a HSA.out
  have HMB := fun W (hW : Below w.heap.size w W) => refMay_any W nb' bt' aj' nj' cj' lj' kj' ac' nc' cc' lc' kc' sj' sc' (HA'.out.1.below hW) HA'.out.2.1 (HA'.out.2.2.1.below hW) HA'.out.2.2.2.1 (by omega) 96 b HSB.out
  have HMA := hid HMA
  have HMB := hid HMB
  cases hra : a.refMay 96
  · rw [hra] at HMA
    clear hra
    go_wp2_with fail
    refine (HMA.out _ HT4.out.two.low).mono ?_
    rintro e w6 ⟨rfl, hb6⟩
    have HT6 := hid (HT4.out.below hb6)
    clear hb6
    go_wp2_with fail
    go_ret
    exact ⟨rfl, HT6.out.two.low⟩
  have HOA := hid ((refMay96 a).1 hra)
  rw [hra] at HMA
  clear hra
  go_wp2_with fail
  refine (HMA.out _ HT4.out.two.low).mono ?_
  rintro e w6 ⟨rfl, hb6⟩
  have HT6 := hid (HT4.out.below hb6)
  have HD6 := hid (HD4.out.below hb6)
  clear hb6 HT4 HD4 HMA e0 e1 e2 e3 e4 e5 e6 e7 f0 f1 f2 f3 f4 f5 f6 f7
  obtain ⟨f0, f1, f2, f3, f4, f5, f6, f7⟩ := cells8 HT6.out.two.bY
  rw [HWQ.out] at f0 f1 f2 f3 f4 f5 f6 f7
  cases hrb : b.refMay 96
  · rw [hrb] at HMB
    clear hrb
    go_wp2_with fail
    refine (HMB.out _ HT6.out.two.low).mono ?_
    rintro e w7 ⟨rfl, hb7⟩
    have HT7 := hid (HT6.out.below hb7)
    clear hb7
    go_wp2_with fail
    go_ret
    exact ⟨rfl, HT7.out.two.low⟩
  have HOB := hid ((refMay96 b).1 hrb)
  rw [hrb] at HMB
  clear hrb
  go_wp2_with fail
  refine (HMB.out _ HT6.out.two.low).mono ?_
  rintro e w7 ⟨rfl, hb7⟩
  have HT7 := hid (HT6.out.below hb7)
  have HD7 := hid (HD6.out.below hb7)
  clear hb7 HT6 HD6 HMB f0 f1 f2 f3 f4 f5 f6 f7
  obtain ⟨e0, e1, e2, e3, e4, e5, e6, e7⟩ := cells8 HT7.out.two.bx
  rw [HWQ.out] at e0 e1 e2 e3 e4 e5 e6 e7
  go_wp2_with fail
  refine (made_any _ nb bt aj nj cj lj kj ac nc cc lc kc).mono ?_
  rintro e w8 ⟨rfl, hb8⟩
  have HT8 := hid (HT7.out.below hb8)
  have HD8 := hid (HD7.out.below hb8)
  clear hb8 HT7 HD7 e0 e1 e2 e3 e4 e5 e6 e7
  unfold spV
  go_wp2_with fail
  refine (writeS_ok HD8.out rfl rfl (by decide) 0 (by decide) (by rw [(fresh_rest 8).1]; decide) nb bt aj nj cj lj kj ac nc cc lc kc sj sc (HA.out.1.below HT8.out.two.low) HA.out.2.1 (by have := HGS.out; omega) (HA.out.2.2.1.below HT8.out.two.low) HA.out.2.2.2.1 (by have := HGS.out; omega) HA.out.2.2.2.2.1 HA.out.2.2.2.2.2 a HSA.out HOA.out).mono ?_
  rintro e w9 ⟨rfl, hd9, ho9⟩
  have HT9 := hid (HT8.out.only ho9 HQP.out.1 HQP.out.2)
  have HD9 := hid hd9
  clear hd9 ho9 HT8 HD8
  obtain ⟨f0, f1, f2, f3, f4, f5, f6, f7⟩ := cells8 HT9.out.two.bY
  rw [HWQ.out] at f0 f1 f2 f3 f4 f5 f6 f7
  go_wp2_with fail
  refine (made_any _ nb' bt' aj' nj' cj' lj' kj' ac' nc' cc' lc' kc').mono ?_
  rintro e w10 ⟨rfl, hb10⟩
  have HT10 := hid (HT9.out.below hb10)
  have HD10 := hid (HD9.out.below hb10)
  clear hb10 HT9 HD9 f0 f1 f2 f3 f4 f5 f6 f7
  unfold spV
  go_wp2_with fail
  refine (writeS_ok HD10.out rfl rfl (by show 4 ≤ 1000000; decide) 1 (by decide) (by rw [layFrom_len, (fresh_rest 8).1]; decide) nb' bt' aj' nj' cj' lj' kj' ac' nc' cc' lc' kc' sj' sc' (HA'.out.1.below HT10.out.two.low) HA'.out.2.1 (by have := HGS.out; omega) (HA'.out.2.2.1.below HT10.out.two.low) HA'.out.2.2.2.1 (by have := HGS.out; omega) HA'.out.2.2.2.2.1 HA'.out.2.2.2.2.2 b HSB.out HOB.out).mono ?_
  rintro e w11 ⟨rfl, hd11, ho11⟩
  have HT11 := hid (HT10.out.only ho11 HQP.out.1 HQP.out.2)
  have HD11 := hid hd11
  clear hd11 ho11 HT10 HD10
  obtain ⟨e0, e1, e2, e3, e4, e5, e6, e7⟩ := cells8 HT11.out.two.bx
  rw [HWQ.out] at e0 e1 e2 e3 e4 e5 e6 e7
  go_wp2_with fail
  refine (made_any _ nb bt aj nj cj lj kj ac nc cc lc kc).mono ?_
  rintro e w12 ⟨rfl, hb12⟩
  have HT12 := hid (HT11.out.below hb12)
  have HD12 := hid (HD11.out.below hb12)
  clear hb12 HT11 HD11 e0 e1 e2 e3 e4 e5 e6 e7
  unfold spV
  go_wp2_with fail
  refine (writeS_no _ q 2 rfl nb bt aj nj cj lj kj ac nc cc lc kc sj sc (HA.out.1.below HT12.out.two.low) HA.out.2.1 (by have := HGS.out; omega) (HA.out.2.2.1.below HT12.out.two.low) HA.out.2.2.2.1 (by have := HGS.out; omega) HA.out.2.2.2.2.1 HA.out.2.2.2.2.2 a HSA.out HOA.out).mono ?_
  rintro e w13 ⟨rfl, hb13⟩
  have HT13 := hid (HT12.out.below hb13)
  have HD13 := hid (HD12.out.below hb13)
  clear hb13 HT12 HD12
  have hbal : Below w13.heap.size w13 (w13.alloc (.cells #[.bool false, .bool false] 49)) := (Below.refl _ _).alloc (Nat.le_refl _) _
  have HT14 := hid (HT13.out.below hbal)
  have hdl : (layFrom 1 b.bytes 4 (layFrom 0 a.bytes 4 (fresh 8))).secs.length = 8 := by rw [layFrom_len, layFrom_len]; exact (fresh_rest 8).1
  have HST : Hid (St (fun s => if s = 0 then a.bytes else b.bytes) (fun _ => false) (w13.alloc (.cells #[.bool false, .bool false] 49)) q p w13.heap.size (layFrom 1 b.bytes 4 (layFrom 0 a.bytes 4 (fresh 8)))) := by
    refine ⟨HD13.out.below hbal, rfl, hdl, heap_alloc_new _ _, fun s hs => ⟨0, 0, by decide, ?_⟩⟩
    rcases (by omega : s = 0 ∨ s = 1) with rfl | rfl
    · rw [slot_other 1 0 _ _ (by decide), slot_same 0 _ _ (by rw [(fresh_rest 8).1]; decide) (bytes_len HOA.out)]
      exact turn_zero _ _
    · rw [slot_same 1 _ _ (by rw [layFrom_len, (fresh_rest 8).1]; decide) (bytes_len HOB.out)]
      exact turn_zero _ _
  have HZB : Hid (q < w13.heap.size ∧ p < w13.heap.size) := ⟨HD13.out.lt.1, HD13.out.lt.2⟩
  clear hbal hdl HT13 HD13 g0 g1 g2 g3
  go_wp2_with fail
  generalize w13.alloc (.cells #[.bool false, .bool false] 49) = w14 at HT14 HST ⊢
  generalize w13.heap.size = zb at HST HZB ⊢
  obtain ⟨X, hX⟩ : ∃ X : Nat → List Nat, (fun s => if s = 0 then a.bytes else b.bytes) = X := ⟨_, rfl⟩
  rw [hX] at HST
  have HX0 : Hid (X 0 = a.bytes ∧ X 1 = b.bytes) := by show _ ∧ _; rw [← hX]; exact ⟨rfl, rfl⟩
  have HXL : Hid (∀ s, s < 2 → (X s).length = 256) := fun s hs => by
    rcases (by omega : s = 0 ∨ s = 1) with rfl | rfl
    · rw [HX0.out.1]; exact bytes_len HOA.out
    · rw [HX0.out.2]; exact bytes_len HOB.out
  clear hX
  go_loopg [10] 2 (fun gk v10 wr => ∃ (k : Nat) (d : Dk) (bb : Nat → Bool), k + gk = 2 ∧ v10 = .int .i64 (k : Int) ∧ (∀ s, k ≤ s → bb s = false) ∧ St X bb wr q p zb d ∧ Tri w #[.int .i64 nb, .int .i64 bt, .slice aj nj cj, .int .i64 lj, .int .u32 (kj : Int), .slice ac nc cc, .int .i64 lc, .int .u32 (kc : Int)] #[.int .i64 nb', .int .i64 bt', .slice aj' nj' cj', .int .i64 lj', .int .u32 (kj' : Int), .slice ac' nc' cc', .int .i64 lc', .int .u32 (kc' : Int)] #[.int .u16 (tv 0 : Nat), .int .u16 (tv 1 : Nat), .int .u16 (tv 2 : Nat), .int .u16 (tv 3 : Nat)] wr)
  case atStart => exact ⟨0, _, fun _ => false, rfl, rfl, fun _ _ => rfl, HST.out, HT14.out⟩
  case round =>
    obtain ⟨k, d, bb, hk, rfl, hbb, hst, htr⟩ := hrel
    have HBB := hid hbb
    have HS := hid hst
    have HT := hid htr
    clear hbb hst htr HST HT14
    obtain ⟨G, hG⟩ : ∃ G, G = gk := ⟨_, rfl⟩
    subst hG
    by_cases hk2 : k < 2
    · have hkk : (k : Int) < 2 := by omega
      have hc1 : wr.cell? ⟨qq + 2, 2 * k + 1, none⟩ = some (.int .u16 (tv (2 * k + 1) : Nat)) := by
        rw [← HWQ.out, cell_of_row wr _ _ _ 44 (0, 0) HT.out.bz]
        rcases (by omega : k = 0 ∨ k = 1) with rfl | rfl <;> rfl
      have hc0 : wr.cell? ⟨qq + 2, 2 * k, none⟩ = some (.int .u16 (tv (2 * k) : Nat)) := by
        rw [← HWQ.out, cell_of_row wr _ _ _ 44 (0, 0) HT.out.bz]
        rcases (by omega : k = 0 ∨ k = 1) with rfl | rfl <;> rfl
      have hvl := HTV.out (2 * k + 1)
      have htl := HTV.out (2 * k)
      generalize tv (2 * k + 1) = v at *
      generalize tv (2 * k) = tt at *
      obtain ⟨at_, hat, hat2⟩ : ∃ at_ : Nat, (tt : Int) % 255 = (at_ : Int) ∧ at_ < 255 := ⟨tt % 255, by omega, by omega⟩
      by_cases hv0 : v = 0
      · subst hv0
        go_wp2_with fail
        go_roundg (G - 1)
        case measure => omega
        case rel => exact ⟨k + 1, d, bb, by omega, by go_num, fun s hs => HBB.out s (by omega), HS.out, HT.out⟩
      · have hv1 : ((v : Int) == 0) = false := by simp; omega
        have HV0 := hid hv0
        obtain ⟨ab, nb0, hn0, htn0⟩ := HS.out.turn k hk2
        have HXK : Hid (d.slot k = X k) := htn0.no (HBB.out k (Nat.le_refl _))
        clear hn0 htn0 hv0
        go_wp2_with fail
        rw [hat]
        clear hat
        go_loopg [13] 2 (fun gk v13 wr => ∃ (i : Nat) (d' : Dk), i + gk = 2 ∧ v13 = .int .i64 (i : Int) ∧ DiskAt wr q p d' ∧ d'.dead = false ∧ d'.secs.length = 8 ∧ wr.heap[zb]? = some (.cells #[.bool (bb 0), .bool (bb 1)] 49 (0, 0)) ∧ Turn (X k) (d'.slot k) at_ i (cf v i) ∧ (∀ s, s < 2 → s ≠ k → d'.slot s = d.slot s) ∧ Tri w #[.int .i64 nb, .int .i64 bt, .slice aj nj cj, .int .i64 lj, .int .u32 (kj : Int), .slice ac nc cc, .int .i64 lc, .int .u32 (kc : Int)] #[.int .i64 nb', .int .i64 bt', .slice aj' nj' cj', .int .i64 lj', .int .u32 (kj' : Int), .slice ac' nc' cc', .int .i64 lc', .int .u32 (kc' : Int)] #[.int .u16 (tv 0 : Nat), .int .u16 (tv 1 : Nat), .int .u16 (tv 2 : Nat), .int .u16 (tv 3 : Nat)] wr)
        case atStart => exact ⟨0, d, rfl, rfl, HS.out.disk, HS.out.dead, HS.out.len, HS.out.bad, by rw [HXK.out]; exact turn_zero _ _, fun _ _ _ => rfl, HT.out⟩
        case round =>
          obtain ⟨i, d', hi, rfl, hd', hdead, hlen, hbad, htn, hoth, htr⟩ := hrel
          have HD := hid hd'
          have HDE := hid (And.intro hdead hlen)
          have HBD := hid hbad
          have HTN := hid htn
          have HOT := hid hoth
          have HT' := hid htr
          clear hd' hdead hlen hbad htn hoth htr hc0 hc1
          by_cases hi2 : i < 2
          · have hii : (i : Int) < 2 := by omega
            obtain ⟨P, hP⟩ : ∃ P : Nat, at_ + i = P := ⟨_, rfl⟩
            have hP2 : P < 256 := by omega
            have hN : (k : Int) * 4 + ((at_ : Int) + (i : Int)) / 64 = ((k * 4 + P / 64 : Nat) : Int) := by omega
            have hO : ((at_ : Int) + (i : Int)) % 64 = ((P % 64 : Nat) : Int) := by omega
            have hNl : k * 4 + P / 64 < 8 := by omega
            have hOl : P % 64 < 64 := by omega
            have hreads : ∀ j, j < 4 → (d'.read (k * 4 + j)).length = 64 := fun j hj => read_len HD.out (by rw [HDE.out.2]; omega)
            have HGT : Hid ((d'.read (k * 4 + P / 64)).getD (P % 64) 0 = (d'.slot k).getD P 0) := slot_get d' k P hreads hP2
            have HSP := hid (fun x => slot_spoil d' k P x hreads (by rw [HDE.out.2]; omega) hP2)
            have HSO := hid (fun r x hr => slot_spoil_other d' k r P x hr hP2)
            have HRL : Hid ((d'.read (k * 4 + P / 64)).length = 64) := hreads (P / 64) (by omega)
            have HPP := hid hP
            clear hreads hP
            generalize hNN : k * 4 + P / 64 = N' at *
            generalize hOO : P % 64 = O at *
            have HNO := hid (And.intro hNN hOO)
            clear hNN hOO
            go_wp2_with fail
            refine (read_ok (i := N') HD.out HDE.out.1 (by rw [HDE.out.2]; exact hNl)).mono ?_
            rintro e w5 ⟨g5, rfl, hg5, hb5, -⟩
            have hcx := hg5.cell O (by rw [HRL.out]; exact hOl)
            obtain ⟨xx, hxx⟩ : ∃ xx, (d'.read N').getD O 0 = xx := ⟨_, rfl⟩
            have hxl : xx < 256 := by rw [← hxx]; exact Pen.getD_lt hg5.2 _
            rw [hxx] at hcx HGT
            have HD5 := hid (HD.out.below hb5)
            have HT5 := hid (HT'.out.below hb5)
            have HBD5 := hid ((hb5.block _ (Array.getElem?_eq_some_iff.1 HBD.out).1).trans HBD.out)
            obtain ⟨y, hy, hyn⟩ : ∃ y : Nat, (v : Int) / 2 ^ (8 * i) % 256 = (y : Int) ∧ y = v / 2 ^ (8 * i) % 256 := ⟨v / 2 ^ (8 * i) % 256, by push_cast; rfl, rfl⟩
            have hyl : y < 256 := by rw [hyn]; exact Nat.mod_lt _ (by decide)
            have hx : bits .xor .u8 (xx : Int) ((v : Int) / 2 ^ (8 * i) % 256) = ((xx ^^^ y : Nat) : Int) := by
              rw [hy]
              exact u8_xor_nat xx y hxl hyl
            have hzl : xx ^^^ y < 256 := Nat.xor_lt_two_pow (n := 8) hxl hyl
            have HSTP : Hid (Turn (X k) ((d'.slot k).set P (xx ^^^ y)) at_ (i + 1) (cf v (i + 1))) := by
              have h := HTN.out.step y (by rw [HXL.out k hk2]; have := HPP.out; omega)
              rw [HPP.out, ← HGT.out] at h
              rw [hyn] at h ⊢
              exact h
            have HX := hid hx
            have hlt5 := HD5.out.lt
            have hrow := row_new w5 [xx ^^^ y] (by simpa using hzl) 5 (0, 0)
            have hbal : Below w5.heap.size w5 (w5.alloc (.cells (row8 [xx ^^^ y]) 5)) := (Below.refl _ _).alloc (Nat.le_refl _) _
            have ksp := spoil_ok (i := N') (y := O) (HD5.out.below hbal) (by rw [HDE.out.2]; exact hNl) (some ⟨w5.heap.size, 0, none⟩) [xx ^^^ y] 1 1 hrow rfl (by simp) (fun z hz => by simp at hz; rw [← hz]; show w5.heap.size ≠ p; omega) (by omega)
            have HKS := hid ksp
            have HT6 := hid (HT5.out.below hbal)
            have HBD6 := hid ((hbal.block _ (Array.getElem?_eq_some_iff.1 HBD5.out).1).trans HBD5.out)
            clear hg5 hb5 hxx hy hyn hyl hx hzl hlt5 hrow hbal ksp HD5 HT5 HBD5 hxl
            go_wp2_with fail
            rw [HX.out]
            refine HKS.out.mono ?_
            rintro e w7 ⟨rfl, hd7, ho7⟩
            have HD7 := hid hd7
            have HT7 := hid (HT6.out.only ho7 HQP.out.1 HQP.out.2)
            have HBD7 := hid ((ho7.block _ (Array.getElem?_eq_some_iff.1 HBD6.out).1 (by have := HZB.out; omega) (by have := HZB.out; simp; omega)).trans HBD6.out)
            clear hd7 ho7
            go_wp2_with fail
            go_roundg (gk - 1)
            case measure => omega
            case rel =>
              refine ⟨i + 1, d'.spoil N' O [xx ^^^ y], by omega, by go_num, HD7.out, HDE.out.1, by rw [(spoil_rest d' N' O _).1]; exact HDE.out.2, HBD7.out, ?_, fun s hs hne => ?_, HT7.out⟩
              · have h := HSP.out (xx ^^^ y)
                rw [h]
                exact HSTP.out
              · have h := HSO.out s (xx ^^^ y) (fun e => hne e.symm)
                rw [h]
                exact HOT.out s hs hne
          · have hii : ¬ (i : Int) < 2 := by omega
            obtain rfl : i = 2 := by omega
            have hbc : wr.cell? ⟨zb, k, none⟩ = some (.bool (bb k)) := by
              rw [cell_of_row wr _ _ _ 49 (0, 0) HBD.out]
              rcases (by omega : k = 0 ∨ k = 1) with rfl | rfl <;> rfl
            have hbf := frozen_of_row wr zb k _ 49 HBD.out
            have HS2 : Hid (St X (fun s => if s = k then true else bb s) (wr.setCell ⟨zb, k, none⟩ (.bool true)) q p zb d') := by
              have hs : ∀ j, j ≠ zb → (wr.setCell ⟨zb, k, none⟩ (.bool true)).heap[j]? = wr.heap[j]? := fun j hj => Below.heap_setCell _ _ _ _ hj
              refine ⟨?_, HDE.out.1, HDE.out.2, ?_, fun s hs2 => ?_⟩
              · obtain ⟨z, d1, d2, d3, d4, d5⟩ := HD.out
                exact ⟨z, (hs q (by have := HZB.out; omega)).trans d1, (hs p (by have := HZB.out; omega)).trans d2, d3, d4, d5⟩
              · rw [heap_setCell_same _ _ _ _ _ _ HBD.out]
                rcases (by omega : k = 0 ∨ k = 1) with rfl | rfl <;> rfl
              · by_cases e : s = k
                · subst e
                  refine ⟨at_, 2, by decide, ?_⟩
                  have h := HTN.out
                  rw [cf_two HV0.out hvl] at h
                  simpa using h
                · obtain ⟨a9, n9, h9, h10⟩ := HS.out.turn s hs2
                  refine ⟨a9, n9, h9, ?_⟩
                  rw [if_neg e, HOT.out s hs2 e]
                  exact h10
            have HT2 := hid (HT'.out.setCell zb k (.bool true) (by have := HZB.out; have := HQP.out; omega))
            go_wp2_with fail
            go_roundg (G - 1)
            case measure => omega
            case rel => exact ⟨k + 1, d', _, by omega, by go_num, fun s hs => by rw [if_neg (by omega)]; exact HBB.out s (by omega), HS2.out, HT2.out⟩
    · have hkk : ¬ (k : Int) < 2 := by omega
      have HP0 : Hid (parse (d.slot 0) 96 = if bb 0 then none else some a) := by
        obtain ⟨a9, n9, h9, h10⟩ := HS.out.turn 0 (by decide)
        rw [HX0.out.1] at h10
        exact h10.ends HOA.out (by rw [HSA.out]; exact HA.out.2.2.2.2.1) (by rw [HSA.out]; exact HA.out.2.2.2.2.2) h9 (slot_lt HS.out.disk HS.out.len 0 (by decide))
      have HP1 : Hid (parse (d.slot 1) 96 = if bb 1 then none else some b) := by
        obtain ⟨a9, n9, h9, h10⟩ := HS.out.turn 1 (by decide)
        rw [HX0.out.2] at h10
        exact h10.ends HOB.out (by rw [HSB.out]; exact HA'.out.2.2.2.2.1) (by rw [HSB.out]; exact HA'.out.2.2.2.2.2) h9 (slot_lt HS.out.disk HS.out.len 1 (by decide))
      have HBD := hid HS.out.bad
      have HKB := hid (bestS_ok HS.out.disk HS.out.dead (by rw [HS.out.len]; decide) 96)
      rw [HP0.out, HP1.out] at HKB
      generalize bb 0 = x0 at *
      generalize bb 1 = x1 at *
      clear HP0 HP1 HS HBB
      have hzlt : zb < wr.heap.size := (Array.getElem?_eq_some_iff.1 HBD.out).1
      go_wp2_with fail
      refine HKB.out.mono ?_
      rintro e w5 ⟨hbst, hb5⟩
      have HT5 := hid (HT.out.below hb5)
      have HBD5 := hid ((hb5.block _ hzlt).trans HBD.out)
      have hz5 : zb < w5.heap.size := Nat.lt_of_lt_of_le hzlt hb5.size
      clear hb5 HKB HT HBD hzlt
      cases x0
      · cases x1
        · rw [if_neg (by simp), if_neg (by simp)] at hbst
          by_cases hlt : a.number < b.number
          · rw [show best (some a) (some b) = some b from if_pos hlt] at hbst
            have hnn : nb < nb' := by rw [HSA.out, HSB.out] at hlt; exact hlt
            obtain ⟨xj, yj, zj, xc, yc, zc, rfl, h1, h2, h3, h4, -, -⟩ := hbst
            have HX := hid (And.intro h1 (And.intro h2 (And.intro h3 h4)))
            obtain ⟨SN, hSN⟩ : ∃ S : Sp, b = S := ⟨_, rfl⟩
            rw [hSN] at HX ⊢
            have HSN := hid hSN
            have HLN : Hid (SN.j.segs.length ≤ 1000 ∧ SN.c.segs.length ≤ 1000) := by have hf := HOB.out.few; show _ ∧ _; rw [← hSN]; omega
            clear h1 h2 h3 h4 hSN
            obtain ⟨nbS, btS, ⟨sjS, ljS, kjS⟩, ⟨scS, lcS, kcS⟩⟩ := SN
            dsimp only at HX ⊢
            have hbal : Below w5.heap.size w5 (w5.alloc (.cells #[.int .i64 nbS, .int .i64 btS, .slice xj yj zj, .int .i64 ljS, .int .u32 (kjS : Int), .slice xc yc zc, .int .i64 lcS, .int .u32 (kcS : Int)] 32)) := (Below.refl _ _).alloc (Nat.le_refl _) _
            have HT6 := hid (HT5.out.below hbal)
            have hbb6 := (hbal.block _ hz5).trans HBD5.out
            have k0 : (w5.alloc (.cells #[.int .i64 nbS, .int .i64 btS, .slice xj yj zj, .int .i64 ljS, .int .u32 (kjS : Int), .slice xc yc zc, .int .i64 lcS, .int .u32 (kcS : Int)] 32)).cell? ⟨zb, 0, none⟩ = some (.bool false) := by rw [cell_of_row _ _ _ _ 49 (0, 0) hbb6]; rfl
            have k1 : (w5.alloc (.cells #[.int .i64 nbS, .int .i64 btS, .slice xj yj zj, .int .i64 ljS, .int .u32 (kjS : Int), .slice xc yc zc, .int .i64 lcS, .int .u32 (kcS : Int)] 32)).cell? ⟨zb, 1, none⟩ = some (.bool false) := by rw [cell_of_row _ _ _ _ 49 (0, 0) hbb6]; rfl
            have HXJ := hid (HX.out.2.2.1.below hbal)
            have HXC := hid (HX.out.2.2.2.below hbal)
            obtain ⟨e0, e1, e2, e3, e4, e5, e6, e7⟩ := cells8 HT6.out.two.bx
            obtain ⟨f0, f1, f2, f3, f4, f5, f6, f7⟩ := cells8 HT6.out.two.bY
            rw [HWQ.out] at e0 e1 e2 e3 e4 e5 e6 e7 f0 f1 f2 f3 f4 f5 f6 f7
            clear hbal hbb6 hz5 HBD5 HT5
            go_wp2_with fail
            generalize w5.alloc (.cells #[.int .i64 nbS, .int .i64 btS, .slice xj yj zj, .int .i64 ljS, .int .u32 (kjS : Int), .slice xc yc zc, .int .i64 lcS, .int .u32 (kcS : Int)] 32) = w6 at HT6 HXJ HXC ⊢
            refine (same_any w6 nbS btS xj yj zj ljS kjS xc yc zc lcS kcS sjS scS nb' bt' aj' nj' cj' lj' kj' ac' nc' cc' lc' kc' sj' sc' HXJ.out HX.out.1 HXC.out HX.out.2.1 (by have := HLN.out; have := HX.out.1; omega) (by have := HLN.out; have := HX.out.2.1; omega) (HA'.out.1.below HT6.out.two.low) HA'.out.2.1 (HA'.out.2.2.1.below HT6.out.two.low) HA'.out.2.2.2.1 (by have := HGS.out; omega) (by have := HGS.out; omega) ⟨nbS, btS, ⟨sjS, ljS, kjS⟩, ⟨scS, lcS, kcS⟩⟩ b rfl HSB.out).mono ?_
            rintro e w7 ⟨rfl, hb7⟩
            rw [show decide ((⟨nbS, btS, ⟨sjS, ljS, kjS⟩, ⟨scS, lcS, kcS⟩⟩ : Sp) = b) = true from decide_eq_true HSN.out.symm]
            have HT7 := hid (HT6.out.below hb7)
            clear hb7
            go_wp2_with fail
            go_ret
            exact ⟨rfl, HT7.out.two.low⟩
          · rw [show best (some a) (some b) = some a from if_neg hlt] at hbst
            have hnn : ¬ nb < nb' := by rw [HSA.out, HSB.out] at hlt; exact hlt
            obtain ⟨xj, yj, zj, xc, yc, zc, rfl, h1, h2, h3, h4, -, -⟩ := hbst
            have HX := hid (And.intro h1 (And.intro h2 (And.intro h3 h4)))
            obtain ⟨SN, hSN⟩ : ∃ S : Sp, a = S := ⟨_, rfl⟩
            rw [hSN] at HX ⊢
            have HSN := hid hSN
            have HLN : Hid (SN.j.segs.length ≤ 1000 ∧ SN.c.segs.length ≤ 1000) := by have hf := HOA.out.few; show _ ∧ _; rw [← hSN]; omega
            clear h1 h2 h3 h4 hSN
            obtain ⟨nbS, btS, ⟨sjS, ljS, kjS⟩, ⟨scS, lcS, kcS⟩⟩ := SN
            dsimp only at HX ⊢
            have hbal : Below w5.heap.size w5 (w5.alloc (.cells #[.int .i64 nbS, .int .i64 btS, .slice xj yj zj, .int .i64 ljS, .int .u32 (kjS : Int), .slice xc yc zc, .int .i64 lcS, .int .u32 (kcS : Int)] 32)) := (Below.refl _ _).alloc (Nat.le_refl _) _
            have HT6 := hid (HT5.out.below hbal)
            have hbb6 := (hbal.block _ hz5).trans HBD5.out
            have k0 : (w5.alloc (.cells #[.int .i64 nbS, .int .i64 btS, .slice xj yj zj, .int .i64 ljS, .int .u32 (kjS : Int), .slice xc yc zc, .int .i64 lcS, .int .u32 (kcS : Int)] 32)).cell? ⟨zb, 0, none⟩ = some (.bool false) := by rw [cell_of_row _ _ _ _ 49 (0, 0) hbb6]; rfl
            have k1 : (w5.alloc (.cells #[.int .i64 nbS, .int .i64 btS, .slice xj yj zj, .int .i64 ljS, .int .u32 (kjS : Int), .slice xc yc zc, .int .i64 lcS, .int .u32 (kcS : Int)] 32)).cell? ⟨zb, 1, none⟩ = some (.bool false) := by rw [cell_of_row _ _ _ _ 49 (0, 0) hbb6]; rfl
            have HXJ := hid (HX.out.2.2.1.below hbal)
            have HXC := hid (HX.out.2.2.2.below hbal)
            obtain ⟨e0, e1, e2, e3, e4, e5, e6, e7⟩ := cells8 HT6.out.two.bx
            obtain ⟨f0, f1, f2, f3, f4, f5, f6, f7⟩ := cells8 HT6.out.two.bY
            rw [HWQ.out] at e0 e1 e2 e3 e4 e5 e6 e7 f0 f1 f2 f3 f4 f5 f6 f7
            clear hbal hbb6 hz5 HBD5 HT5
            go_wp2_with fail
            generalize w5.alloc (.cells #[.int .i64 nbS, .int .i64 btS, .slice xj yj zj, .int .i64 ljS, .int .u32 (kjS : Int), .slice xc yc zc, .int .i64 lcS, .int .u32 (kcS : Int)] 32) = w6 at HT6 HXJ HXC ⊢
            refine (same_any w6 nbS btS xj yj zj ljS kjS xc yc zc lcS kcS sjS scS nb bt aj nj cj lj kj ac nc cc lc kc sj sc HXJ.out HX.out.1 HXC.out HX.out.2.1 (by have := HLN.out; have := HX.out.1; omega) (by have := HLN.out; have := HX.out.2.1; omega) (HA.out.1.below HT6.out.two.low) HA.out.2.1 (HA.out.2.2.1.below HT6.out.two.low) HA.out.2.2.2.1 (by have := HGS.out; omega) (by have := HGS.out; omega) ⟨nbS, btS, ⟨sjS, ljS, kjS⟩, ⟨scS, lcS, kcS⟩⟩ a rfl HSA.out).mono ?_
            rintro e w7 ⟨rfl, hb7⟩
            rw [show decide ((⟨nbS, btS, ⟨sjS, ljS, kjS⟩, ⟨scS, lcS, kcS⟩⟩ : Sp) = a) = true from decide_eq_true HSN.out.symm]
            have HT7 := hid (HT6.out.below hb7)
            clear hb7
            go_wp2_with fail
            go_ret
            exact ⟨rfl, HT7.out.two.low⟩
        · rw [if_neg (by simp), if_pos rfl] at hbst
          change Bested _ _ _ (some a) at hbst
          obtain ⟨xj, yj, zj, xc, yc, zc, rfl, h1, h2, h3, h4, -, -⟩ := hbst
          have HX := hid (And.intro h1 (And.intro h2 (And.intro h3 h4)))
          obtain ⟨SN, hSN⟩ : ∃ S : Sp, a = S := ⟨_, rfl⟩
          rw [hSN] at HX ⊢
          have HSN := hid hSN
          have HLN : Hid (SN.j.segs.length ≤ 1000 ∧ SN.c.segs.length ≤ 1000) := by have hf := HOA.out.few; show _ ∧ _; rw [← hSN]; omega
          clear h1 h2 h3 h4 hSN
          obtain ⟨nbS, btS, ⟨sjS, ljS, kjS⟩, ⟨scS, lcS, kcS⟩⟩ := SN
          dsimp only at HX ⊢
          have hbal : Below w5.heap.size w5 (w5.alloc (.cells #[.int .i64 nbS, .int .i64 btS, .slice xj yj zj, .int .i64 ljS, .int .u32 (kjS : Int), .slice xc yc zc, .int .i64 lcS, .int .u32 (kcS : Int)] 32)) := (Below.refl _ _).alloc (Nat.le_refl _) _
          have HT6 := hid (HT5.out.below hbal)
          have hbb6 := (hbal.block _ hz5).trans HBD5.out
          have k0 : (w5.alloc (.cells #[.int .i64 nbS, .int .i64 btS, .slice xj yj zj, .int .i64 ljS, .int .u32 (kjS : Int), .slice xc yc zc, .int .i64 lcS, .int .u32 (kcS : Int)] 32)).cell? ⟨zb, 0, none⟩ = some (.bool false) := by rw [cell_of_row _ _ _ _ 49 (0, 0) hbb6]; rfl
          have k1 : (w5.alloc (.cells #[.int .i64 nbS, .int .i64 btS, .slice xj yj zj, .int .i64 ljS, .int .u32 (kjS : Int), .slice xc yc zc, .int .i64 lcS, .int .u32 (kcS : Int)] 32)).cell? ⟨zb, 1, none⟩ = some (.bool true) := by rw [cell_of_row _ _ _ _ 49 (0, 0) hbb6]; rfl
          have HXJ := hid (HX.out.2.2.1.below hbal)
          have HXC := hid (HX.out.2.2.2.below hbal)
          obtain ⟨e0, e1, e2, e3, e4, e5, e6, e7⟩ := cells8 HT6.out.two.bx
          obtain ⟨f0, f1, f2, f3, f4, f5, f6, f7⟩ := cells8 HT6.out.two.bY
          rw [HWQ.out] at e0 e1 e2 e3 e4 e5 e6 e7 f0 f1 f2 f3 f4 f5 f6 f7
          clear hbal hbb6 hz5 HBD5 HT5
          go_wp2_with fail
          generalize w5.alloc (.cells #[.int .i64 nbS, .int .i64 btS, .slice xj yj zj, .int .i64 ljS, .int .u32 (kjS : Int), .slice xc yc zc, .int .i64 lcS, .int .u32 (kcS : Int)] 32) = w6 at HT6 HXJ HXC ⊢
          refine (same_any w6 nbS btS xj yj zj ljS kjS xc yc zc lcS kcS sjS scS nb bt aj nj cj lj kj ac nc cc lc kc sj sc HXJ.out HX.out.1 HXC.out HX.out.2.1 (by have := HLN.out; have := HX.out.1; omega) (by have := HLN.out; have := HX.out.2.1; omega) (HA.out.1.below HT6.out.two.low) HA.out.2.1 (HA.out.2.2.1.below HT6.out.two.low) HA.out.2.2.2.1 (by have := HGS.out; omega) (by have := HGS.out; omega) ⟨nbS, btS, ⟨sjS, ljS, kjS⟩, ⟨scS, lcS, kcS⟩⟩ a rfl HSA.out).mono ?_
          rintro e w7 ⟨rfl, hb7⟩
          rw [show decide ((⟨nbS, btS, ⟨sjS, ljS, kjS⟩, ⟨scS, lcS, kcS⟩⟩ : Sp) = a) = true from decide_eq_true HSN.out.symm]
          have HT7 := hid (HT6.out.below hb7)
          clear hb7
          go_wp2_with fail
          go_ret
          exact ⟨rfl, HT7.out.two.low⟩
      · cases x1
        · rw [if_pos rfl, if_neg (by simp)] at hbst
          change Bested _ _ _ (some b) at hbst
          obtain ⟨xj, yj, zj, xc, yc, zc, rfl, h1, h2, h3, h4, -, -⟩ := hbst
          have HX := hid (And.intro h1 (And.intro h2 (And.intro h3 h4)))
          obtain ⟨SN, hSN⟩ : ∃ S : Sp, b = S := ⟨_, rfl⟩
          rw [hSN] at HX ⊢
          have HSN := hid hSN
          have HLN : Hid (SN.j.segs.length ≤ 1000 ∧ SN.c.segs.length ≤ 1000) := by have hf := HOB.out.few; show _ ∧ _; rw [← hSN]; omega
          clear h1 h2 h3 h4 hSN
          obtain ⟨nbS, btS, ⟨sjS, ljS, kjS⟩, ⟨scS, lcS, kcS⟩⟩ := SN
          dsimp only at HX ⊢
          have hbal : Below w5.heap.size w5 (w5.alloc (.cells #[.int .i64 nbS, .int .i64 btS, .slice xj yj zj, .int .i64 ljS, .int .u32 (kjS : Int), .slice xc yc zc, .int .i64 lcS, .int .u32 (kcS : Int)] 32)) := (Below.refl _ _).alloc (Nat.le_refl _) _
          have HT6 := hid (HT5.out.below hbal)
          have hbb6 := (hbal.block _ hz5).trans HBD5.out
          have k0 : (w5.alloc (.cells #[.int .i64 nbS, .int .i64 btS, .slice xj yj zj, .int .i64 ljS, .int .u32 (kjS : Int), .slice xc yc zc, .int .i64 lcS, .int .u32 (kcS : Int)] 32)).cell? ⟨zb, 0, none⟩ = some (.bool true) := by rw [cell_of_row _ _ _ _ 49 (0, 0) hbb6]; rfl
          have k1 : (w5.alloc (.cells #[.int .i64 nbS, .int .i64 btS, .slice xj yj zj, .int .i64 ljS, .int .u32 (kjS : Int), .slice xc yc zc, .int .i64 lcS, .int .u32 (kcS : Int)] 32)).cell? ⟨zb, 1, none⟩ = some (.bool false) := by rw [cell_of_row _ _ _ _ 49 (0, 0) hbb6]; rfl
          have HXJ := hid (HX.out.2.2.1.below hbal)
          have HXC := hid (HX.out.2.2.2.below hbal)
          obtain ⟨e0, e1, e2, e3, e4, e5, e6, e7⟩ := cells8 HT6.out.two.bx
          obtain ⟨f0, f1, f2, f3, f4, f5, f6, f7⟩ := cells8 HT6.out.two.bY
          rw [HWQ.out] at e0 e1 e2 e3 e4 e5 e6 e7 f0 f1 f2 f3 f4 f5 f6 f7
          clear hbal hbb6 hz5 HBD5 HT5
          go_wp2_with fail
          generalize w5.alloc (.cells #[.int .i64 nbS, .int .i64 btS, .slice xj yj zj, .int .i64 ljS, .int .u32 (kjS : Int), .slice xc yc zc, .int .i64 lcS, .int .u32 (kcS : Int)] 32) = w6 at HT6 HXJ HXC ⊢
          refine (same_any w6 nbS btS xj yj zj ljS kjS xc yc zc lcS kcS sjS scS nb' bt' aj' nj' cj' lj' kj' ac' nc' cc' lc' kc' sj' sc' HXJ.out HX.out.1 HXC.out HX.out.2.1 (by have := HLN.out; have := HX.out.1; omega) (by have := HLN.out; have := HX.out.2.1; omega) (HA'.out.1.below HT6.out.two.low) HA'.out.2.1 (HA'.out.2.2.1.below HT6.out.two.low) HA'.out.2.2.2.1 (by have := HGS.out; omega) (by have := HGS.out; omega) ⟨nbS, btS, ⟨sjS, ljS, kjS⟩, ⟨scS, lcS, kcS⟩⟩ b rfl HSB.out).mono ?_
          rintro e w7 ⟨rfl, hb7⟩
          rw [show decide ((⟨nbS, btS, ⟨sjS, ljS, kjS⟩, ⟨scS, lcS, kcS⟩⟩ : Sp) = b) = true from decide_eq_true HSN.out.symm]
          have HT7 := hid (HT6.out.below hb7)
          clear hb7
          go_wp2_with fail
          go_ret
          exact ⟨rfl, HT7.out.two.low⟩
        · rw [if_pos rfl, if_pos rfl] at hbst
          change Bested _ _ _ none at hbst
          obtain rfl : e = _ := hbst
          have hbal : Below w5.heap.size w5 (w5.alloc (.cells #[.int .i64 0, .int .i64 0, .slice none 0 0, .int .i64 0, .int .u32 0, .slice none 0 0, .int .i64 0, .int .u32 0] 32)) := (Below.refl _ _).alloc (Nat.le_refl _) _
          have HT6 := hid (HT5.out.below hbal)
          have hbb6 := (hbal.block _ hz5).trans HBD5.out
          have k0 : (w5.alloc (.cells #[.int .i64 0, .int .i64 0, .slice none 0 0, .int .i64 0, .int .u32 0, .slice none 0 0, .int .i64 0, .int .u32 0] 32)).cell? ⟨zb, 0, none⟩ = some (.bool true) := by rw [cell_of_row _ _ _ _ 49 (0, 0) hbb6]; rfl
          have k1 : (w5.alloc (.cells #[.int .i64 0, .int .i64 0, .slice none 0 0, .int .i64 0, .int .u32 0, .slice none 0 0, .int .i64 0, .int .u32 0] 32)).cell? ⟨zb, 1, none⟩ = some (.bool true) := by rw [cell_of_row _ _ _ _ 49 (0, 0) hbb6]; rfl
          clear hbal hbb6 hz5 HBD5 HT5
          go_wp2_with fail
          go_ret
          exact ⟨rfl, HT6.out.two.low⟩
set_option linter.unusedVariables false
set_option maxRecDepth 100000 in
theorem superBest_lifted (os : Os) (started : os.Started) (H : Type) (enc : TypeId × Value → H) :
    ReturnsInHanded {} Try.checked os 4 .any (Rows.superBestSpec.pre6 enc Try.prog Try.f4 Rows.superBestRow.domain false) (Rows.superBestSpec.post enc Try.prog Try.f4 false true false false) := by
  refine returnsInHanded_of_change (C := Try.checked) laws_own started (by kernel_rfl) Try.func4
    (ChangeSpec.witness6 (enc := enc) (C := Try.checked) false ⟨#[], #[.agg #[.int .i64 0, .int .i64 0, .slice none 0 0, .int .i64 0, .int .u32 0, .slice none 0 0, .int .i64 0, .int .u32 0], .agg #[.int .i64 0, .int .i64 0, .slice none 0 0, .int .i64 0, .int .u32 0, .slice none 0 0, .int .i64 0, .int .u32 0], .agg #[.int .u16 0, .int .u16 0, .int .u16 0, .int .u16 0]], []⟩ 8 (by kernel_rfl) (by kernel_rfl) (by kernel_rfl) (by kernel_rfl)) ?_
  intro W base args ds gs before hval0 hW hcnd _
  have hval : ∀ (j : Nat) t v, Try.f4.params[j]? = some t → args[j]? = some v → Value.okWide Try.prog W .any base t v := hval0
  have hW' := hW
  obtain ⟨p, q, hA0, hV, rfl, hfz, hnd⟩ := hW
  have hA : DataW.TrodAll enc Try.prog W 0 (fun _ => true) true Try.f4.params.toList args.toList ds p := hA0
  rw [Try.params4] at hA hval
  obtain ⟨v0, vs0, d0, ds0, p0, q0, hargs, rfl, rfl, h0, r0⟩ := trodAll_cons hA
  obtain ⟨v1, vs1, d1, ds1, p1, q1, rfl, rfl, rfl, h1, r1⟩ := trodAll_cons r0
  obtain ⟨v2, vs2, d2, ds2, p2, q2, rfl, rfl, rfl, h2, r2⟩ := trodAll_cons r1
  obtain ⟨rfl, rfl, rfl⟩ := trodAll_nil r2
  obtain rfl : args = #[v0, v1, v2] := by cases args; simp_all
  obtain ⟨rfl, rfl⟩ := trodVars_none hV
  obtain ⟨c0, rfl, _⟩ := okWide_struct Try.underlying27 (hval 0 27 v0 rfl rfl)
  have k0 := h0
  have lt0 : ∀ x ∈ p0, x.block < W.heap.size := by obtain ⟨m, hm⟩ := k0; exact DataW.trod_lt m _ _ _ hm
  obtain ⟨s0, hs0⟩ : ∃ s, SupIn W (.agg c0) s := by
    obtain ⟨fuel, hf⟩ := h0
    exact sup_of hf
  obtain ⟨c1, rfl, _⟩ := okWide_struct Try.underlying27 (hval 1 27 v1 rfl rfl)
  have k1 := h1
  have lt1 : ∀ x ∈ p1, x.block < W.heap.size := by obtain ⟨m, hm⟩ := k1; exact DataW.trod_lt m _ _ _ hm
  obtain ⟨s1, hs1⟩ : ∃ s, SupIn W (.agg c1) s := by
    obtain ⟨fuel, hf⟩ := h1
    exact sup_of hf
  obtain ⟨c2, rfl, hc2⟩ := okWide_four (hval 2 44 v2 rfl rfl)
  have k2 := h2
  have lt2 : ∀ x ∈ p2, x.block < W.heap.size := by obtain ⟨m, hm⟩ := k2; exact DataW.trod_lt m _ _ _ hm
  obtain ⟨tv, htv, htl⟩ : ∃ tv : Nat → Nat, c2 = #[.int .u16 (tv 0 : Nat), .int .u16 (tv 1 : Nat), .int .u16 (tv 2 : Nat), .int .u16 (tv 3 : Nat)] ∧ ∀ i, tv i < 65536 := by
    obtain ⟨fuel, hf⟩ := h2
    exact u16s_of hc2 hf
  subst htv
  clear hA0 hval0
  refine (superBest_walk W c0 s0 hs0 c1 s1 hs1 tv htl).mono fun e W' ⟨he, bel⟩ => ?_
  subst he
  exact ⟨_, rfl, _, _, _, [], _, [], hW', trodAll_mk1 (shut_bool Try.underlying4 _), (trodAll_cons_mk (Below.trod laws_laid (by kernel_rfl) (of_decide_eq_true (by kernel_rfl)) k0 bel lt0) (trodAll_cons_mk (Below.trod laws_laid (by kernel_rfl) (of_decide_eq_true (by kernel_rfl)) k1 bel lt1) (trodAll_cons_mk (Below.trod laws_laid (by kernel_rfl) (of_decide_eq_true (by kernel_rfl)) k2 bel lt2) trodAll_mk0))), rfl, bel.frame _, fun h => by cases h⟩
set_option maxRecDepth 100000 in
theorem superBest_over : Rows.superBestRow.holds Try.pinned (OpenSpec.ofChange Rows.superBestSpec) :=
  OpenClaim.holds_of_wide 4 Try.f4 rfl rfl rfl rfl rfl rfl rfl ⟨rfl, rfl, rfl, rfl, rfl⟩ rfl rfl rfl rfl rfl (by kernel_rfl) Try.func4 (by kernel_rfl)
    (of_decide_eq_true (by kernel_rfl)) (by unfold Func.isWrapper; first | (rw [if_pos (by decide +kernel)]; kernel_rfl) | (rw [if_neg (by decide +kernel)]; exact ⟨rfl, rfl⟩))
    (fun os started H enc _ => superBest_lifted os started H enc)
theorem superBest_holds : Rows.SuperBestSaid := superBest_over
#print axioms superBest_holds
end Go.Proofs.Ytmfmhlhpleahpaa
