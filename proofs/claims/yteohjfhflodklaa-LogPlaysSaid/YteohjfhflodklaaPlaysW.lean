/- LogPlays: any records, on any number of segments: those that fit are there, in order; one that does not changes nothing. No condition. -/
import Derived.Test.YteohjfhflodklaaLogW
namespace Go.Proofs.Yteohjfhflodklaa
open Go.ChangeShapes Go.WideShapes Go.ChangeAt Go.RowKit Pen
open Crc (four nx run)
set_option maxRecDepth 4000
set_option linter.constructorNameAsVariable false
set_option maxRecDepth 10000 in
set_option maxHeartbeats 8000000 in
theorem logPlays_walk (A : Nat) (a1 : Option Addr) (ls : List (List Nat)) (n0 c0 : Nat) (B : Nat) (w : World) (hA : A < 256) (hB : B < 256) (hls : ls.length = n0) (hnm : n0 ≤ maxLen) (hg : Grid w a1 ls) :
    Calls Try.prog 3 #[.int .u8 (A : Int), .slice a1 n0 c0, .int .u8 (B : Int)] w fun e w' => e = .returned (.bool true) ∧ Below w.heap.size w w' := by
  have HLS := hid hls
  have HNM := hid hnm
  have HG := hid hg
  have hA' : (A : Int) < 256 := by omega
  have hB' : (B : Int) < 256 := by omega
  clear hls hnm hg
  go_enter Try.func3, Try.ntmps3
  go_wp2_with fail
  refine (awake_any w).mono ?_
  rintro e w1 ⟨rfl, hb1⟩
  have HB1 := hid hb1
  clear hb1
  go_wp2_with fail
  refine (small_any a1 ls n0 c0 HLS.out HNM.out (HG.out.below HB1.out)).mono ?_
  rintro e w2 ⟨⟨b, rfl, h60⟩, rfl⟩
  cases b with
  | false =>
    go_wp2_with fail
    go_ret
    exact ⟨rfl, HB1.out⟩
  | true =>
    have h60 := h60 rfl
    obtain ⟨k, hk⟩ : ∃ k, A % 12 = k := ⟨_, rfl⟩
    have hk12 : k < 12 := by omega
    have hkI : (A : Int) % 12 = (k : Int) := by omega
    obtain ⟨N, hN⟩ : ∃ N, 8 + 8 * k = N := ⟨_, rfl⟩
    have hNI : (8 : Int) + (k : Int) * 8 = (N : Int) := by omega
    have HNN := hid hN
    have hk12' : (k : Int) < 12 := by omega
    have HN := hid (new_any w2 N (by omega))
    clear hk hN
    go_wp2_with fail
    refine HN.out.mono ?_
    rintro e w3 ⟨q, rfl, p, hd3, hb3, hq, hp⟩
    rw [← HNN.out] at hd3
    have HD3 := hid hd3
    have HB3 := hid (below_tr HB1.out hb3 HB1.out.size)
    have hq2 : w.heap.size ≤ q := Nat.le_trans HB1.out.size hq
    have hp2 : w.heap.size ≤ p := Nat.le_trans HB1.out.size hp
    clear HN hd3 hb3 hq hp HB1
    go_wp2_with fail
    refine (Sp.new_any w3 k k (by omega)).mono ?_
    rintro e w4 ⟨x, rfl, hs4, hb4, hx⟩
    have HD4 := hid (HD3.out.below hb4)
    have HS4 := hid hs4
    have HB4 := hid (below_tr HB3.out hb4 HB3.out.size)
    have hx2 : w.heap.size ≤ x := Nat.le_trans HB3.out.size hx
    clear HD3 HB3 hs4 hb4 hx
    go_wp2_with fail
    refine (lnew_any w4 q).mono ?_
    rintro e w5 ⟨g, rfl, hl5, hb5, hg5⟩
    have his := start_is (k := k) (HD4.out.below hb5) (HS4.out.below hb5) hl5
    have HB5 := hid (below_tr HB4.out hb5 HB4.out.size)
    have hg2 : w.heap.size ≤ g := Nat.le_trans HB4.out.size hg5
    have hlt5 := his.sys.disk.lt
    have hltx := his.sys.space.lt
    have hltg := his.sys.log.glt
    have HIS : Hid (Ing w.heap.size w5.heap.size w5 g q p x (fresh (8 + 8 * k)) k 0 [] [] (.slice none 0 0) []) := ⟨his, recs_nil _ _ _, Nat.le_refl _, fun j e => by rcases e with rfl | rfl | rfl | rfl <;> omega, HB5.out.size⟩
    clear HD4 HS4 HB4 hl5 hb5 hg5 his hlt5 hltx hltg hg2 hx2 hq2 hp2
    go_wp2_with fail
    go_loopg [12, 13, 14] n0 (fun gk v12 v13 v14 wr => ∃ (i : Nat) (recs : List (Nat × List Nat)) (d : Dk) (mm : Nat) (segs : List Nat), i + gk = n0 ∧ v14 = .int .i64 (i : Int) ∧ v13 = .int .i64 (lenOf recs : Nat) ∧ Ing w.heap.size w5.heap.size wr g q p x d k mm segs recs v12 (recs.map (·.2)) ∧ Below w.heap.size w wr)
    case atStart => exact ⟨0, [], _, 0, [], by omega, rfl, rfl, HIS.out, HB5.out⟩
    case round =>
      obtain ⟨i, recs, d, mm, segs, hi, rfl, rfl, hin, hb⟩ := hrel
      clear HIS HB5
      obtain ⟨a9, c9, rfl⟩ := hin.rows.slice
      obtain ⟨R, hR⟩ : ∃ R, (recs.map (·.2)).length = R := ⟨_, rfl⟩
      have hR7 : R ≤ 768 := by rw [← hR, List.length_map]; have h8 := len_le recs; have h9 := hin.is.sys.log.nle; omega
      rw [hR] at hin ⊢
      have HRR := hid hR
      have hL7 : lenOf recs ≤ 768 := hin.is.sys.log.nle
      have HI := hid hi
      by_cases hlt : i < n0
      · have hlt' : (i : Int) < (n0 : Int) := by omega
        obtain ⟨bg, og, ai, ci, rfl, hgr, hai⟩ := grid_at HG.out (i := i) (by rw [HLS.out]; exact hlt)
        have HGR := hid hgr
        have HAI := hid hai
        obtain ⟨ri, hri⟩ : ∃ ri, ls.getD i [] = ri := ⟨_, rfl⟩
        obtain ⟨rl, hrl⟩ : ∃ rl, ri.length = rl := ⟨_, rfl⟩
        rw [hri] at HGR HAI
        rw [hrl] at HGR
        have HRL := hid hrl
        have HWH := hid (where_any hin.is.sys.log)
        have HIN := hid hin
        have HB := hid hb
        obtain ⟨ll, hll⟩ : ∃ ll, lenOf recs = ll := ⟨_, rfl⟩
        obtain ⟨la, hla⟩ : ∃ la, lastOf 0 recs = la := ⟨_, rfl⟩
        obtain ⟨sl, hsl⟩ : ∃ sl, segs.length = sl := ⟨_, rfl⟩
        have HLL := hid (And.intro hll (And.intro hla hsl))
        rw [hll, hla, hsl] at HWH
        rw [hll] at hL7 ⊢
        clear hin hb hgr hai hri hrl hll hla hsl hi hR
        go_wp2_with fail
        refine HWH.out.mono ?_
        rintro e w6 ⟨a6, c6, rfl, _, _, _, _, hb6⟩
        have HIN6 := hid (HIN.out.below hb6)
        have HB6 := hid (below_tr HB.out hb6 HB.out.size)
        have HFR := hid (Sp.free_any HIN6.out.is.sys.space)
        rw [nfree_upTo _ _ HIN6.out.is.sys.space.le] at HFR
        obtain ⟨fr, hfr⟩ : ∃ fr, k - mm = fr := ⟨_, rfl⟩
        rw [hfr] at HFR
        have HFRR := hid hfr
        clear hb6 HWH HIN HB hfr
        go_wp2_with fail
        refine HFR.out.mono ?_
        rintro e w7 ⟨rfl, j7, hw7⟩
        have hb7 : Below w6.heap.size w6 w7 := by rw [hw7]; exact to_drewN (Below.refl _ _) _
        have HST := hid (box36 w7 a6 sl c6 (ll : Int) (la : Int))
        have hbA : Below w7.heap.size w7 (w7.alloc (.cells #[.slice a6 sl c6, .int .i64 (ll : Int), .int .u32 (la : Int)] 36)) := (Below.refl _ w7).alloc (Nat.le_refl _) _
        have HBOX := hid (heap_alloc_new w7 (.cells #[.slice a6 sl c6, .int .i64 (ll : Int), .int .u32 (la : Int)] 36))
        have HIN8 := hid ((HIN6.out.below hb7).below hbA)
        have HB8 := hid (below_tr (below_tr HB6.out hb7 HB6.out.size) hbA (below_tr HB6.out hb7 HB6.out.size).size)
        have HYT := hid (show w5.heap.size ≤ w7.heap.size from (HIN6.out.below hb7).past)
        obtain ⟨y, hy⟩ : ∃ y, w7.heap.size = y := ⟨_, rfl⟩
        rw [hy] at HBOX HYT
        have hgr8 := HGR.out _ HB8.out
        have HPU := hid (put_any HIN8.out.is B ai ri rl ci HRL.out hgr8.2)
        have hci8 := hgr8.1
        clear hw7 hb7 hbA HIN6 HB6 HFR hgr8
        go_wp2_with (refine step_store 36 rfl _ _ rfl _ HST.out ?_)
        generalize w7.alloc (.cells #[.slice a6 sl c6, .int .i64 (ll : Int), .int .u32 (la : Int)] 36) = w8 at *
        clear hy HST
        refine HPU.out.mono ?_
        rintro e w9 ⟨z, rfl, hput⟩
        rcases hput with ⟨rfl, hmay, hroom, hb9, zt, his9⟩ | ⟨rfl, hno, hb9, his9⟩ | ⟨rfl, hmay, hroom, hb9, his9⟩
        · have hne : ri ≠ [] := by intro e; rw [e] at hmay; exact absurd hmay.1 (by decide)
          obtain ⟨bb, oo, rfl, hbb⟩ := HAI.out hne
          have hin9 := HIN8.out.put hb9 his9
          have HB9 := hid (below_tr' HB8.out (HIN8.out.low hb9))
          have HBOX9 := hid (HIN8.out.young hb9 HBOX.out HYT.out)
          have hgr9 := HGR.out _ HB9.out
          have hci9 := hgr9.1
          have hrl1 : 1 ≤ rl ∧ rl ≤ 16384 := by rw [← HRL.out]; exact ⟨hmay.1, hmay.2.1⟩
          have hr1' : ¬ (rl : Int) < 1 := by omega
          have hr2' : ¬ 16384 < (rl : Int) := by omega
          obtain ⟨cn, hcn⟩ : ∃ cn, cnt (rl + 16) = cn := ⟨_, rfl⟩
          have hc6 : (cn : Int) ≤ 400 := by rw [← hcn]; unfold cnt; omega
          have hlnew : lenOf (recs ++ [(B, ri)]) = ll + cn := by rw [lenOf_app, lenOf_one, HLL.out.1]; show ll + cnt (ri.length + 16) = _; rw [HRL.out, hcn]
          have hsmall : (ll : Int) + (cn : Int) ≤ (k : Int) * 8 := by
            have h1 := HLL.out.1
            have h2 := HRL.out
            unfold secsN at hroom
            rw [h1, h2, hcn] at hroom
            omega
          have HSEC := hid (fun W => lsectors_any W (some ⟨bb, oo, none⟩) rl ci hrl1.2)
          rw [hcn] at HSEC
          have hd1 : Below w9.heap.size w9 w9.drew := to_drew (Below.refl _ _)
          obtain ⟨g9, c10, wX, hrunX, hinX, hbX, hkX⟩ := (hin9.below hd1).snoc HRR.out (by omega) (hgr9.2.below hd1) HRL.out hne hbb (cc := ci)
          have HS1 : Hid (Below w.heap.size w w9.drew) := to_drew HB9.out
          have HS2 : Hid (Below w.heap.size w (w9.drew.alloc (.cells #[.slice (some ⟨bb, oo, none⟩) rl ci] 40))) := HS1.out.alloc HS1.out.size _
          have HS3 := hid (below_tr' HS1.out hbX)
          have HRX := hid hrunX
          have HINX := hid hinX
          have HBOXX := hid (hkX y _ _ ((hd1.block y (Array.getElem?_eq_some_iff.1 HBOX9.out).1).trans HBOX9.out) (by decide))
          have hgS := fun W h => (HGR.out W h).1
          have HLNEW := hid hlnew
          clear hb9 his9 HIN8 HB8 HBOX HPU hci8 HAI hmay hroom hcn hin9 hgr9 hlnew hd1 hrunX hinX hbX hkX
          go_wp2_with fail
          refine (HSEC.out _).mono ?_
          rintro e w10 ⟨rfl, rfl⟩
          clear hci9
          go_wp2_with fail
          go_region_held_law (fun W => Below w.heap.size w W) (first | exact HS1.out | exact HS2.out | exact HS3.out) (first | refine step_app3 22 rfl _ _ rfl _ _ rfl rfl _ wX HRX.out 80 rfl ?_ | (go_at_call 17; refine (HSEC.out _).mono ?_; rintro e w' ⟨rfl, rfl⟩))
          have HT := HINX
          have HBT := HS3
          have HBOXT := HBOXX
          clear HS1 HS2 HRX HINX HS3 HBOXX HSEC hgS HBOX9 HB9
          have HWT := hid (where_any HT.out.is.sys.log)
          have htg := HT.out.is.tight
          have hwho := HT.out.is.whole
          have hmk := HT.out.is.sys.le
          have hL7T : lenOf (recs ++ [(B, ri)]) ≤ 768 := HT.out.is.sys.log.nle
          obtain ⟨lb, hlb⟩ : ∃ lb, lenOf (recs ++ [(B, ri)]) = lb := ⟨_, rfl⟩
          obtain ⟨lc, hlc⟩ : ∃ lc, lastOf 0 (recs ++ [(B, ri)]) = lc := ⟨_, rfl⟩
          obtain ⟨sm, hsm⟩ : ∃ sm, ((segs ++ List.range' mm zt)).length = sm := ⟨_, rfl⟩
          rw [hlb, hlc, hsm] at HWT
          rw [hlb, hsm] at htg
          rw [hsm] at hwho
          rw [hlb] at hL7T
          have hq1 : ((lb : Int) + 8 - 1) / 8 = (sm : Int) := by unfold segsN at htg; omega
          obtain ⟨fs, hfs⟩ : ∃ fs, k - (mm + zt) = fs := ⟨_, rfl⟩
          have hq2 : (k : Int) - (sm : Int) = (fs : Int) := by omega
          have HLB := hid (And.intro hlb (And.intro hlc (And.intro hsm hfs)))
          have hqs : IntKind.i64.wrap ((ll : Int) + (cn : Int)) = (lb : Int) := by
            have h1 := HLNEW.out
            rw [hlb] at h1
            rw [h1, ← Int.natCast_add]
            exact wrap_i64 (ll + cn) (by omega)
          rw [hqs]
          clear htg hwho hmk hlb hlc hsm hfs
          go_wp2_with fail
          refine HWT.out.mono ?_
          rintro e wA ⟨aA, cA, rfl, _, _, _, _, hbA⟩
          have HST2 := hid (box36 wA aA sm cA (lb : Int) (lc : Int))
          have hbB : Below wA.heap.size wA (wA.alloc (.cells #[.slice aA sm cA, .int .i64 (lb : Int), .int .u32 (lc : Int)] 36)) := (Below.refl _ wA).alloc (Nat.le_refl _) _
          have hbox2 := heap_alloc_new wA (.cells #[.slice aA sm cA, .int .i64 (lb : Int), .int .u32 (lc : Int)] 36)
          have hbAB := below_tr hbA hbB hbA.size
          have hyB := (hbAB.block y (Array.getElem?_eq_some_iff.1 HBOXT.out).1).trans HBOXT.out
          have HTB := hid (HT.out.below hbAB)
          have HBB := hid (below_tr HBT.out hbAB HBT.out.size)
          obtain ⟨yb, hyb⟩ : ∃ yb, wA.heap.size = yb := ⟨_, rfl⟩
          rw [hyb] at hbox2
          have HYB := hid hyb
          clear hbA hbB hbAB HWT HT HBT HBOXT hyb
          go_wp2_with (refine step_store 36 rfl _ _ rfl _ HST2.out ?_)
          rw [HYB.out]
          generalize wA.alloc (.cells #[.slice aA sm cA, .int .i64 (lb : Int), .int .u32 (lc : Int)] 36) = wB at *
          have b0 : wB.cell? ⟨yb, 0, none⟩ = some (.slice aA sm cA) := by rw [cell_of_row wB _ 0 _ 36 (0, 0) hbox2]; rfl
          have b1 : wB.cell? ⟨yb, 1, none⟩ = some (.int .i64 (lb : Int)) := by rw [cell_of_row wB _ 1 _ 36 (0, 0) hbox2]; rfl
          have b2 : wB.cell? ⟨yb, 2, none⟩ = some (.int .u32 (lc : Int)) := by rw [cell_of_row wB _ 2 _ 36 (0, 0) hbox2]; rfl
          have y2 : wB.cell? ⟨y, 2, none⟩ = some (.int .u32 (la : Int)) := by rw [cell_of_row wB _ 2 _ 36 (0, 0) hyB]; rfl
          have HFT := hid (fun n => Sp.free_any (HTB.out.below (to_drewN (Below.refl _ wB) n)).is.sys.space)
          rw [nfree_upTo _ _ HTB.out.is.sys.space.le, HLB.out.2.2.2] at HFT
          clear hbox2 hyB HST2 HYB
          have hw1 : IntKind.i64.wrap ((lb : Int) + 8) = (lb : Int) + 8 := by rw [show (lb : Int) + 8 = ((lb + 8 : Nat) : Int) by omega]; exact wrap_i64 (lb + 8) (by omega)
          have hw2 : IntKind.i64.wrap ((lb : Int) + 8 - 1) = (lb : Int) + 8 - 1 := by rw [show (lb : Int) + 8 - 1 = ((lb + 7 : Nat) : Int) by omega]; exact wrap_i64 (lb + 7) (by omega)
          have hw3 : IntKind.i64.wrap ((k : Int) - (sm : Int)) = (fs : Int) := by rw [hq2]; exact wrap_i64 fs (by omega)
          have hw4 : ((lb : Int) + 8 - 1).tdiv 8 = (sm : Int) := by rw [Int.tdiv_eq_ediv_of_nonneg (by omega)]; exact hq1
          have hw6 : IntKind.i64.wrap (fs : Int) = (fs : Int) := wrap_i64 fs (by omega)
          have hw5 : IntKind.i64.wrap (sm : Int) = (sm : Int) := wrap_i64 sm (by omega)
          go_wp2_with fail
          go_quiet (exact Calls.quiet_of (HFT.out _))
          go_wp2_with fail
          have hbC : Below wB.heap.size wB (wB.drewN nq) := to_drewN (Below.refl _ _) _
          clear b0 b1 b2 y2 hw1 hw2 hw3 hw4 hw5 hw6 HFT
          go_roundg (gk - 1)
          case measure => have := HI.out; omega
          case rel =>
            refine ⟨i + 1, (recs ++ [(B, ri)]), (lays d (segs ++ List.range' mm zt) (lenOf recs) (secsOf (lenOf recs) B (mk (lastOf 0 recs) B ri))), mm + zt, (segs ++ List.range' mm zt), by have := HI.out; omega, by go_num, by rw [HLB.out.1], ?_, below_tr HBB.out hbC HBB.out.size⟩
            have := HTB.out.below hbC
            rw [List.map_append]
            exact this
        · have HT := hid (HIN8.out.below hb9)
          have HBT := hid (below_tr HB8.out hb9 HB8.out.size)
          have HBOXT := hid ((hb9.block y (Array.getElem?_eq_some_iff.1 HBOX.out).1).trans HBOX.out)
          have hci9 := (HGR.out _ HBT.out).1
          clear hb9 his9 HIN8 HB8 HBOX HPU hci8 HAI
          by_cases hr1 : rl < 1
          · have hr1' : (rl : Int) < 1 := by omega
            clear hno
            have HWT := hid (where_any HT.out.is.sys.log)
            have htg := HT.out.is.tight
            have hwho := HT.out.is.whole
            have hmk := HT.out.is.sys.le
            have hL7T : lenOf recs ≤ 768 := HT.out.is.sys.log.nle
            obtain ⟨lb, hlb⟩ : ∃ lb, lenOf recs = lb := ⟨_, rfl⟩
            obtain ⟨lc, hlc⟩ : ∃ lc, lastOf 0 recs = lc := ⟨_, rfl⟩
            obtain ⟨sm, hsm⟩ : ∃ sm, (segs).length = sm := ⟨_, rfl⟩
            rw [hlb, hlc, hsm] at HWT
            rw [hlb, hsm] at htg
            rw [hsm] at hwho
            rw [hlb] at hL7T
            have hq1 : ((lb : Int) + 8 - 1) / 8 = (sm : Int) := by unfold segsN at htg; omega
            obtain ⟨fs, hfs⟩ : ∃ fs, k - (mm) = fs := ⟨_, rfl⟩
            have hq2 : (k : Int) - (sm : Int) = (fs : Int) := by omega
            have HLB := hid (And.intro hlb (And.intro hlc (And.intro hsm hfs)))
            have hlbl : lb = ll := by rw [← hlb]; exact HLL.out.1
            have hlcl : lc = la := by rw [← hlc]; exact HLL.out.2.1
            have hfsl : fs = fr := by rw [← hfs]; exact HFRR.out
            subst hlbl hlcl hfsl
            clear htg hwho hmk hlb hlc hsm hfs
            go_wp2_with fail
            refine HWT.out.mono ?_
            rintro e wA ⟨aA, cA, rfl, _, _, _, _, hbA⟩
            have HST2 := hid (box36 wA aA sm cA (lb : Int) (lc : Int))
            have hbB : Below wA.heap.size wA (wA.alloc (.cells #[.slice aA sm cA, .int .i64 (lb : Int), .int .u32 (lc : Int)] 36)) := (Below.refl _ wA).alloc (Nat.le_refl _) _
            have hbox2 := heap_alloc_new wA (.cells #[.slice aA sm cA, .int .i64 (lb : Int), .int .u32 (lc : Int)] 36)
            have hbAB := below_tr hbA hbB hbA.size
            have hyB := (hbAB.block y (Array.getElem?_eq_some_iff.1 HBOXT.out).1).trans HBOXT.out
            have HTB := hid (HT.out.below hbAB)
            have HBB := hid (below_tr HBT.out hbAB HBT.out.size)
            obtain ⟨yb, hyb⟩ : ∃ yb, wA.heap.size = yb := ⟨_, rfl⟩
            rw [hyb] at hbox2
            have HYB := hid hyb
            clear hbA hbB hbAB HWT HT HBT HBOXT hyb
            go_wp2_with (refine step_store 36 rfl _ _ rfl _ HST2.out ?_)
            rw [HYB.out]
            generalize wA.alloc (.cells #[.slice aA sm cA, .int .i64 (lb : Int), .int .u32 (lc : Int)] 36) = wB at *
            have b0 : wB.cell? ⟨yb, 0, none⟩ = some (.slice aA sm cA) := by rw [cell_of_row wB _ 0 _ 36 (0, 0) hbox2]; rfl
            have b1 : wB.cell? ⟨yb, 1, none⟩ = some (.int .i64 (lb : Int)) := by rw [cell_of_row wB _ 1 _ 36 (0, 0) hbox2]; rfl
            have b2 : wB.cell? ⟨yb, 2, none⟩ = some (.int .u32 (lc : Int)) := by rw [cell_of_row wB _ 2 _ 36 (0, 0) hbox2]; rfl
            have y2 : wB.cell? ⟨y, 2, none⟩ = some (.int .u32 (lc : Int)) := by rw [cell_of_row wB _ 2 _ 36 (0, 0) hyB]; rfl
            have HFT := hid (fun n => Sp.free_any (HTB.out.below (to_drewN (Below.refl _ wB) n)).is.sys.space)
            rw [nfree_upTo _ _ HTB.out.is.sys.space.le, HLB.out.2.2.2] at HFT
            clear hbox2 hyB HST2 HYB
            have hw1 : IntKind.i64.wrap ((lb : Int) + 8) = (lb : Int) + 8 := by rw [show (lb : Int) + 8 = ((lb + 8 : Nat) : Int) by omega]; exact wrap_i64 (lb + 8) (by omega)
            have hw2 : IntKind.i64.wrap ((lb : Int) + 8 - 1) = (lb : Int) + 8 - 1 := by rw [show (lb : Int) + 8 - 1 = ((lb + 7 : Nat) : Int) by omega]; exact wrap_i64 (lb + 7) (by omega)
            have hw3 : IntKind.i64.wrap ((k : Int) - (sm : Int)) = (fs : Int) := by rw [hq2]; exact wrap_i64 fs (by omega)
            have hw4 : ((lb : Int) + 8 - 1).tdiv 8 = (sm : Int) := by rw [Int.tdiv_eq_ediv_of_nonneg (by omega)]; exact hq1
            have hw6 : IntKind.i64.wrap (fs : Int) = (fs : Int) := wrap_i64 fs (by omega)
            have hw5 : IntKind.i64.wrap (sm : Int) = (sm : Int) := wrap_i64 sm (by omega)
            go_wp2_with fail
            go_quiet (exact Calls.quiet_of (HFT.out _))
            go_wp2_with fail
            refine (HFT.out _).mono ?_
            rintro e wC ⟨rfl, jC, hwC⟩
            have hbC : Below wB.heap.size wB wC := by rw [hwC]; exact to_drewN (to_drewN (Below.refl _ _) _) _
            clear b0 b1 b2 y2 hw1 hw2 hw3 hw4 hw5 hw6 hwC HFT
            go_wp2_with fail
            go_roundg (gk - 1)
            case measure => have := HI.out; omega
            case rel =>
              refine ⟨i + 1, recs, d, mm, segs, by have := HI.out; omega, by go_num, by rw [HLB.out.1], ?_, below_tr HBB.out hbC HBB.out.size⟩
              have := HTB.out.below hbC
              exact this
          · have hr1' : ¬ (rl : Int) < 1 := by omega
            have hr2' : 16384 < (rl : Int) := by
              have := HRL.out
              unfold MayBe at hno
              omega
            clear hno
            have HWT := hid (where_any HT.out.is.sys.log)
            have htg := HT.out.is.tight
            have hwho := HT.out.is.whole
            have hmk := HT.out.is.sys.le
            have hL7T : lenOf recs ≤ 768 := HT.out.is.sys.log.nle
            obtain ⟨lb, hlb⟩ : ∃ lb, lenOf recs = lb := ⟨_, rfl⟩
            obtain ⟨lc, hlc⟩ : ∃ lc, lastOf 0 recs = lc := ⟨_, rfl⟩
            obtain ⟨sm, hsm⟩ : ∃ sm, (segs).length = sm := ⟨_, rfl⟩
            rw [hlb, hlc, hsm] at HWT
            rw [hlb, hsm] at htg
            rw [hsm] at hwho
            rw [hlb] at hL7T
            have hq1 : ((lb : Int) + 8 - 1) / 8 = (sm : Int) := by unfold segsN at htg; omega
            obtain ⟨fs, hfs⟩ : ∃ fs, k - (mm) = fs := ⟨_, rfl⟩
            have hq2 : (k : Int) - (sm : Int) = (fs : Int) := by omega
            have HLB := hid (And.intro hlb (And.intro hlc (And.intro hsm hfs)))
            have hlbl : lb = ll := by rw [← hlb]; exact HLL.out.1
            have hlcl : lc = la := by rw [← hlc]; exact HLL.out.2.1
            have hfsl : fs = fr := by rw [← hfs]; exact HFRR.out
            subst hlbl hlcl hfsl
            clear htg hwho hmk hlb hlc hsm hfs
            go_wp2_with fail
            refine HWT.out.mono ?_
            rintro e wA ⟨aA, cA, rfl, _, _, _, _, hbA⟩
            have HST2 := hid (box36 wA aA sm cA (lb : Int) (lc : Int))
            have hbB : Below wA.heap.size wA (wA.alloc (.cells #[.slice aA sm cA, .int .i64 (lb : Int), .int .u32 (lc : Int)] 36)) := (Below.refl _ wA).alloc (Nat.le_refl _) _
            have hbox2 := heap_alloc_new wA (.cells #[.slice aA sm cA, .int .i64 (lb : Int), .int .u32 (lc : Int)] 36)
            have hbAB := below_tr hbA hbB hbA.size
            have hyB := (hbAB.block y (Array.getElem?_eq_some_iff.1 HBOXT.out).1).trans HBOXT.out
            have HTB := hid (HT.out.below hbAB)
            have HBB := hid (below_tr HBT.out hbAB HBT.out.size)
            obtain ⟨yb, hyb⟩ : ∃ yb, wA.heap.size = yb := ⟨_, rfl⟩
            rw [hyb] at hbox2
            have HYB := hid hyb
            clear hbA hbB hbAB HWT HT HBT HBOXT hyb
            go_wp2_with (refine step_store 36 rfl _ _ rfl _ HST2.out ?_)
            rw [HYB.out]
            generalize wA.alloc (.cells #[.slice aA sm cA, .int .i64 (lb : Int), .int .u32 (lc : Int)] 36) = wB at *
            have b0 : wB.cell? ⟨yb, 0, none⟩ = some (.slice aA sm cA) := by rw [cell_of_row wB _ 0 _ 36 (0, 0) hbox2]; rfl
            have b1 : wB.cell? ⟨yb, 1, none⟩ = some (.int .i64 (lb : Int)) := by rw [cell_of_row wB _ 1 _ 36 (0, 0) hbox2]; rfl
            have b2 : wB.cell? ⟨yb, 2, none⟩ = some (.int .u32 (lc : Int)) := by rw [cell_of_row wB _ 2 _ 36 (0, 0) hbox2]; rfl
            have y2 : wB.cell? ⟨y, 2, none⟩ = some (.int .u32 (lc : Int)) := by rw [cell_of_row wB _ 2 _ 36 (0, 0) hyB]; rfl
            have HFT := hid (fun n => Sp.free_any (HTB.out.below (to_drewN (Below.refl _ wB) n)).is.sys.space)
            rw [nfree_upTo _ _ HTB.out.is.sys.space.le, HLB.out.2.2.2] at HFT
            clear hbox2 hyB HST2 HYB
            have hw1 : IntKind.i64.wrap ((lb : Int) + 8) = (lb : Int) + 8 := by rw [show (lb : Int) + 8 = ((lb + 8 : Nat) : Int) by omega]; exact wrap_i64 (lb + 8) (by omega)
            have hw2 : IntKind.i64.wrap ((lb : Int) + 8 - 1) = (lb : Int) + 8 - 1 := by rw [show (lb : Int) + 8 - 1 = ((lb + 7 : Nat) : Int) by omega]; exact wrap_i64 (lb + 7) (by omega)
            have hw3 : IntKind.i64.wrap ((k : Int) - (sm : Int)) = (fs : Int) := by rw [hq2]; exact wrap_i64 fs (by omega)
            have hw4 : ((lb : Int) + 8 - 1).tdiv 8 = (sm : Int) := by rw [Int.tdiv_eq_ediv_of_nonneg (by omega)]; exact hq1
            have hw6 : IntKind.i64.wrap (fs : Int) = (fs : Int) := wrap_i64 fs (by omega)
            have hw5 : IntKind.i64.wrap (sm : Int) = (sm : Int) := wrap_i64 sm (by omega)
            go_wp2_with fail
            go_quiet (exact Calls.quiet_of (HFT.out _))
            go_wp2_with fail
            refine (HFT.out _).mono ?_
            rintro e wC ⟨rfl, jC, hwC⟩
            have hbC : Below wB.heap.size wB wC := by rw [hwC]; exact to_drewN (to_drewN (Below.refl _ _) _) _
            clear b0 b1 b2 y2 hw1 hw2 hw3 hw4 hw5 hw6 hwC HFT
            go_wp2_with fail
            go_roundg (gk - 1)
            case measure => have := HI.out; omega
            case rel =>
              refine ⟨i + 1, recs, d, mm, segs, by have := HI.out; omega, by go_num, by rw [HLB.out.1], ?_, below_tr HBB.out hbC HBB.out.size⟩
              have := HTB.out.below hbC
              exact this
        · have HT := hid (HIN8.out.below hb9)
          have HBT := hid (below_tr HB8.out hb9 HB8.out.size)
          have HBOXT := hid ((hb9.block y (Array.getElem?_eq_some_iff.1 HBOX.out).1).trans HBOX.out)
          have hci9 := (HGR.out _ HBT.out).1
          have hrl1 : 1 ≤ rl ∧ rl ≤ 16384 := by rw [← HRL.out]; exact ⟨hmay.1, hmay.2.1⟩
          have hr1' : ¬ (rl : Int) < 1 := by omega
          have hr2' : ¬ 16384 < (rl : Int) := by omega
          obtain ⟨cn, hcn⟩ : ∃ cn, cnt (rl + 16) = cn := ⟨_, rfl⟩
          have hbig : (k : Int) * 8 < (ll : Int) + (cn : Int) := by
            have h1 := HLL.out.1
            have h2 := HRL.out
            unfold secsN at hroom
            rw [h1, h2, hcn] at hroom
            omega
          have hc6 : (cn : Int) ≤ 400 := by rw [← hcn]; unfold cnt; omega
          have HSEC := hid (fun W => lsectors_any W ai rl ci hrl1.2)
          rw [hcn] at HSEC
          clear hb9 his9 HIN8 HB8 HBOX HPU hci8 HAI hmay hroom hcn
          go_wp2_with fail
          refine (HSEC.out _).mono ?_
          rintro e w10 ⟨rfl, rfl⟩
          clear HSEC hci9
          have HWT := hid (where_any HT.out.is.sys.log)
          have htg := HT.out.is.tight
          have hwho := HT.out.is.whole
          have hmk := HT.out.is.sys.le
          have hL7T : lenOf recs ≤ 768 := HT.out.is.sys.log.nle
          obtain ⟨lb, hlb⟩ : ∃ lb, lenOf recs = lb := ⟨_, rfl⟩
          obtain ⟨lc, hlc⟩ : ∃ lc, lastOf 0 recs = lc := ⟨_, rfl⟩
          obtain ⟨sm, hsm⟩ : ∃ sm, (segs).length = sm := ⟨_, rfl⟩
          rw [hlb, hlc, hsm] at HWT
          rw [hlb, hsm] at htg
          rw [hsm] at hwho
          rw [hlb] at hL7T
          have hq1 : ((lb : Int) + 8 - 1) / 8 = (sm : Int) := by unfold segsN at htg; omega
          obtain ⟨fs, hfs⟩ : ∃ fs, k - (mm) = fs := ⟨_, rfl⟩
          have hq2 : (k : Int) - (sm : Int) = (fs : Int) := by omega
          have HLB := hid (And.intro hlb (And.intro hlc (And.intro hsm hfs)))
          have hlbl : lb = ll := by rw [← hlb]; exact HLL.out.1
          have hlcl : lc = la := by rw [← hlc]; exact HLL.out.2.1
          have hfsl : fs = fr := by rw [← hfs]; exact HFRR.out
          subst hlbl hlcl hfsl
          clear htg hwho hmk hlb hlc hsm hfs
          go_wp2_with fail
          refine HWT.out.mono ?_
          rintro e wA ⟨aA, cA, rfl, _, _, _, _, hbA⟩
          have HST2 := hid (box36 wA aA sm cA (lb : Int) (lc : Int))
          have hbB : Below wA.heap.size wA (wA.alloc (.cells #[.slice aA sm cA, .int .i64 (lb : Int), .int .u32 (lc : Int)] 36)) := (Below.refl _ wA).alloc (Nat.le_refl _) _
          have hbox2 := heap_alloc_new wA (.cells #[.slice aA sm cA, .int .i64 (lb : Int), .int .u32 (lc : Int)] 36)
          have hbAB := below_tr hbA hbB hbA.size
          have hyB := (hbAB.block y (Array.getElem?_eq_some_iff.1 HBOXT.out).1).trans HBOXT.out
          have HTB := hid (HT.out.below hbAB)
          have HBB := hid (below_tr HBT.out hbAB HBT.out.size)
          obtain ⟨yb, hyb⟩ : ∃ yb, wA.heap.size = yb := ⟨_, rfl⟩
          rw [hyb] at hbox2
          have HYB := hid hyb
          clear hbA hbB hbAB HWT HT HBT HBOXT hyb
          go_wp2_with (refine step_store 36 rfl _ _ rfl _ HST2.out ?_)
          rw [HYB.out]
          generalize wA.alloc (.cells #[.slice aA sm cA, .int .i64 (lb : Int), .int .u32 (lc : Int)] 36) = wB at *
          have b0 : wB.cell? ⟨yb, 0, none⟩ = some (.slice aA sm cA) := by rw [cell_of_row wB _ 0 _ 36 (0, 0) hbox2]; rfl
          have b1 : wB.cell? ⟨yb, 1, none⟩ = some (.int .i64 (lb : Int)) := by rw [cell_of_row wB _ 1 _ 36 (0, 0) hbox2]; rfl
          have b2 : wB.cell? ⟨yb, 2, none⟩ = some (.int .u32 (lc : Int)) := by rw [cell_of_row wB _ 2 _ 36 (0, 0) hbox2]; rfl
          have y2 : wB.cell? ⟨y, 2, none⟩ = some (.int .u32 (lc : Int)) := by rw [cell_of_row wB _ 2 _ 36 (0, 0) hyB]; rfl
          have HFT := hid (fun n => Sp.free_any (HTB.out.below (to_drewN (Below.refl _ wB) n)).is.sys.space)
          rw [nfree_upTo _ _ HTB.out.is.sys.space.le, HLB.out.2.2.2] at HFT
          clear hbox2 hyB HST2 HYB
          have hw1 : IntKind.i64.wrap ((lb : Int) + 8) = (lb : Int) + 8 := by rw [show (lb : Int) + 8 = ((lb + 8 : Nat) : Int) by omega]; exact wrap_i64 (lb + 8) (by omega)
          have hw2 : IntKind.i64.wrap ((lb : Int) + 8 - 1) = (lb : Int) + 8 - 1 := by rw [show (lb : Int) + 8 - 1 = ((lb + 7 : Nat) : Int) by omega]; exact wrap_i64 (lb + 7) (by omega)
          have hw3 : IntKind.i64.wrap ((k : Int) - (sm : Int)) = (fs : Int) := by rw [hq2]; exact wrap_i64 fs (by omega)
          have hw4 : ((lb : Int) + 8 - 1).tdiv 8 = (sm : Int) := by rw [Int.tdiv_eq_ediv_of_nonneg (by omega)]; exact hq1
          have hw6 : IntKind.i64.wrap (fs : Int) = (fs : Int) := wrap_i64 fs (by omega)
          have hw5 : IntKind.i64.wrap (sm : Int) = (sm : Int) := wrap_i64 sm (by omega)
          go_wp2_with fail
          go_quiet (exact Calls.quiet_of (HFT.out _))
          go_wp2_with fail
          refine (HFT.out _).mono ?_
          rintro e wC ⟨rfl, jC, hwC⟩
          have hbC : Below wB.heap.size wB wC := by rw [hwC]; exact to_drewN (to_drewN (Below.refl _ _) _) _
          clear b0 b1 b2 y2 hw1 hw2 hw3 hw4 hw5 hw6 hwC HFT
          go_wp2_with fail
          go_roundg (gk - 1)
          case measure => have := HI.out; omega
          case rel =>
            refine ⟨i + 1, recs, d, mm, segs, by have := HI.out; omega, by go_num, by rw [HLB.out.1], ?_, below_tr HBB.out hbC HBB.out.size⟩
            have := HTB.out.below hbC
            exact this
      · have hlt' : ¬ (i : Int) < (n0 : Int) := by omega
        have HWH := hid (where_any hin.is.sys.log)
        have HIN := hid hin
        have HB := hid hb
        clear hin hb hi hR HG
        obtain ⟨ll, hll⟩ : ∃ ll, lenOf recs = ll := ⟨_, rfl⟩
        obtain ⟨la, hla⟩ : ∃ la, lastOf 0 recs = la := ⟨_, rfl⟩
        obtain ⟨sl, hsl⟩ : ∃ sl, segs.length = sl := ⟨_, rfl⟩
        rw [hll, hla, hsl] at HWH
        rw [hll] at hL7 ⊢
        have HLL := hid (And.intro hll (And.intro hla hsl))
        clear hll hla hsl
        go_wp2_with fail
        refine HWH.out.mono ?_
        rintro e w6 ⟨a6, c6, rfl, hs6, _, _, hz6, hb6⟩
        have HIN6 := hid (HIN.out.below hb6)
        have HB6 := hid (below_tr HB.out hb6 HB.out.size)
        have HLD := hid (load_is HIN6.out.is a6 sl c6 HLL.out.2.2 hs6.irow hz6)
        rw [HLL.out.1, HLL.out.2.1] at HLD
        clear hs6 hz6 hb6 HWH HIN HB
        go_wp2_with fail
        refine HLD.out.mono ?_
        rintro e w7 ⟨g7, v7, rfl, hg7, hl7, ⟨base, hbase, hre7⟩, hb7⟩
        have HIN7 := hid (HIN6.out.below hb7)
        have HB7 := hid (below_tr HB6.out hb7 HB6.out.size)
        obtain ⟨a7, c7, rfl⟩ := hre7.slice
        rw [HRR.out] at hre7 ⊢
        have HSM := hid (same_any a7 a9 (recs.map (·.2)) (recs.map (·.2)) R c7 R c9 HRR.out HRR.out hre7.grid.2 HIN7.out.rows.grid.2 (by omega))
        have hgfar := HIN6.out.past
        have HL7 := hid hl7
        clear hre7 hl7 hb7 HIN6 HB6 HLD hbase
        go_wp2_with fail
        refine HSM.out.mono ?_
        rintro e w8 ⟨rfl, j8, hw8⟩
        try rw [decide_eq_true (rfl : recs.map (·.2) = recs.map (·.2))]
        try rw [decide_true]
        have hb8 : Below w7.heap.size w7 w8 := by rw [hw8]; exact to_drewN (Below.refl _ _) _
        have HIN8 := hid (HIN7.out.below hb8)
        have HB8 := hid (below_tr HB7.out hb8 HB7.out.size)
        have HL8 := hid (HL7.out.below hb8)
        have HMO := hid (more_none HL8.out HIN8.out.is.sys.disk HIN8.out.is.sys.dead HIN8.out.is.sys.has HIN8.out.is.nodup (by have := HIN8.out.is.blank; rwa [HLL.out.1] at this) 0)
        clear hw8 hb8 HIN7 HB7 HL7 HSM
        go_wp2_with fail
        refine HMO.out.mono ?_
        rintro e wM ⟨aM, cM, rfl, _, hbM⟩
        have hfarM : ∀ j, j < w5.heap.size → ¬ j = g7 := fun j h1 h2 => by omega
        have hTg : Tag w8 g7 71 := HL8.out.tag
        have hniM : NoInts (fun j => j = g7) w8 := noInts_of (fun j e => ⟨71, by rw [e]; exact hTg, by decide⟩)
        have hF := HIN8.out.far
        have hlM := HIN8.out.is.sys.log.but hbM hniM (hfarM g (hF g (.inr (.inr (.inr rfl)))).1)
        have hspM := HIN8.out.is.sys.space.but hbM (hfarM x (hF x (.inr (.inr (.inl rfl)))).1)
        have hslow := HIN8.out.is.sys.low
        have hsk : ∀ s ∈ segs, s < k := fun s hs => Nat.lt_of_lt_of_le (hslow s hs) HIN8.out.is.sys.le
        have HGV := hid (lgive_any hlM hspM hsk)
        have HBM := hid (below_tr' HB8.out (hbM.below (base := w.heap.size) (fun j e => by have := HIN8.out.st; omega) HB8.out.size))
        have hnf : Sp.nfree (giveAll (Sp.upTo mm) segs) k = k := by
          rw [nfree_giveAll hspM.le segs _ hspM.len HIN8.out.is.nodup (fun s hs => ⟨hsk s hs, by rw [Sp.upTo_get mm s (by have := hsk s hs; have := hspM.le; omega)]; exact decide_eq_true (hslow s hs)⟩), nfree_upTo _ _ hspM.le]
          have := HIN8.out.is.whole
          have := HIN8.out.is.sys.le
          omega
        have HNF := hid hnf
        have hgS : ∀ j, (j = x ∨ j = g) → w.heap.size ≤ j := fun j e => (hF j (by rcases e with rfl | rfl; exact .inr (.inr (.inl rfl)); exact .inr (.inr (.inr rfl)))).2
        have HGS := hid hgS
        clear hfarM hTg hniM hF hlM hspM hslow hsk hnf hgS hbM HMO HIN8 HB8 HL8
        go_wp2_with fail
        refine HGV.out.mono ?_
        rintro e wG ⟨rfl, hlG, hsG, hbG⟩
        have HBG := hid (below_tr' HBM.out (hbG.below (base := w.heap.size) (fun j e => HGS.out j e) HBM.out.size))
        have HFR := hid (Sp.free_any hsG)
        rw [HNF.out] at HFR
        have HLG := hid hlG
        clear hlG hsG hbG HGV HBM
        go_wp2_with fail
        refine HFR.out.mono ?_
        rintro e wH ⟨rfl, jH, hwH⟩
        have hbH : Below wG.heap.size wG wH := by rw [hwH]; exact to_drewN (Below.refl _ _) _
        have HLH := hid (HLG.out.below hbH)
        have HBH := hid (below_tr HBG.out hbH HBG.out.size)
        clear hwH hbH HFR HLG HBG
        go_wp2_with fail
        refine (where_any HLH.out).mono ?_
        rintro e wI ⟨aI, cI, rfl, _, _, _, _, hbI⟩
        have HLI := hid (HLH.out.below hbI)
        have HBI := hid (below_tr HBH.out hbI HBH.out.size)
        have hfd := field36 wI aI 0 cI 0 0
        clear hbI HLH HBH
        go_wp2_with fail
        refine (where_any HLI.out).mono ?_
        rintro e wJ ⟨aJ, cJ, rfl, _, _, _, _, hbJ⟩
        have HBJ := hid (below_tr HBI.out hbJ HBI.out.size)
        have hfs := field36s wJ aJ 0 cJ 0 0
        clear hbJ HLI HBI hfd
        go_wp2_with fail
        go_ret
        exact ⟨rfl, HBJ.out⟩
end Go.Proofs.Yteohjfhflodklaa
