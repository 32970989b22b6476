/- LogTurns: a log that is loaded goes on as the one that it was. No condition. -/
import Derived.Test.YteohjfhflodklabLogY
namespace Go.Proofs.Yteohjfhflodklab
open Go.ChangeShapes Go.WideShapes Go.ChangeAt Go.RowKit Pen
open Crc (four nx run)
set_option maxRecDepth 4000
set_option linter.constructorNameAsVariable false
set_option maxRecDepth 10000 in
set_option maxHeartbeats 8000000 in
theorem logTurns_walk (a0 : Option Addr) (ls : List (List Nat)) (n0 c0 : Nat) (C : Nat) (w : World) (hC : C < 256) (hls : ls.length = n0) (hnm : n0 ≤ maxLen) (hg : Grid w a0 ls) :
    Calls Try.prog 3 #[.slice a0 n0 c0, .int .u8 (C : Int)] w fun e w' => e = .returned (.bool true) ∧ Below w.heap.size w w' := by
  have HLS := hid hls
  have HNM := hid hnm
  have HG := hid hg
  have hC' : (C : Int) < 256 := by omega
  clear hls hnm hg
  go_enter Try.func3, Try.ntmps3
  go_wp2_with fail
  refine (awake_any w).mono ?_
  rintro e w1 ⟨rfl, hb1⟩
  have HB1 := hid hb1
  clear hb1
  go_wp2_with fail
  refine (small_any a0 ls n0 c0 HLS.out HNM.out (HG.out.below HB1.out)).mono ?_
  rintro e w2 ⟨⟨b, rfl, h60⟩, rfl⟩
  cases b with
  | false =>
    go_wp2_with fail
    go_ret
    exact ⟨rfl, HB1.out⟩
  | true =>
    have h60 := h60 rfl
    have hn60 : (n0 : Int) ≤ 60 := by omega
    obtain ⟨cc, hcc⟩ : ∃ cc, C % (n0 + 1) = cc := ⟨_, rfl⟩
    have hmod : (C : Int) % ((n0 : Int) + 1) = (cc : Int) := by
      rw [← hcc]
      have : ((n0 : Int) + 1) = ((n0 + 1 : Nat) : Int) := by omega
      rw [this]; rfl
    have h0n : ¬ (n0 : Int) + 1 = 0 := by omega
    have HN := hid (new_any w2 776 (by decide))
    clear hcc
    go_wp2_with fail
    refine HN.out.mono ?_
    rintro e w3 ⟨q, rfl, p, hd3, hb3, hq, hp⟩
    have HD3 := hid hd3
    have HB3 := hid (below_tr HB1.out hb3 HB1.out.size)
    have hq2 : w.heap.size ≤ q := Nat.le_trans HB1.out.size hq
    have hp2 : w.heap.size ≤ p := Nat.le_trans HB1.out.size hp
    clear HN hd3 hb3 hq hp HB1
    go_wp2_with fail
    refine (Sp.new_any w3 96 96 (by decide)).mono ?_
    rintro e w4 ⟨x, rfl, hs4, hb4, hx⟩
    have HD4 := hid (HD3.out.below hb4)
    have HS4 := hid hs4
    have HB4 := hid (below_tr HB3.out hb4 HB3.out.size)
    have hx2 : w.heap.size ≤ x := Nat.le_trans HB3.out.size hx
    clear HD3 HB3 hs4 hb4 hx
    go_wp2_with fail
    refine (lnew_any w4 q).mono ?_
    rintro e w5 ⟨g, rfl, hl5, hb5, hg5⟩
    have his := start_is (k := 96) (HD4.out.below hb5) (HS4.out.below hb5) hl5
    have HB5 := hid (below_tr HB4.out hb5 HB4.out.size)
    have hg2 : w.heap.size ≤ g := Nat.le_trans HB4.out.size hg5
    have HIS : Hid (Ing2 w.heap.size w5 g q p x (fresh (8 + 8 * 96)) 96 0 [] [] (.slice none 0 0) []) := ⟨his, recs_nil _ _ _, HB5.out.size, fun j e => by rcases e with rfl | rfl | rfl | rfl <;> omega⟩
    clear HD4 HS4 HB4 hl5 hb5 hg5 his hg2 hx2 hq2 hp2
    go_wp2_with fail
    go_loopg [8, 9, 10] n0 (fun gk v8 v9 v10 wr => ∃ (i g : Nat) (recs : List (Nat × List Nat)) (d : Dk) (mm : Nat) (segs : List Nat), i + gk = n0 ∧ v10 = .int .i64 (i : Int) ∧ v8 = .pointer (some ⟨g, 0, none⟩) ∧ Ing2 w.heap.size wr g q p x d 96 mm segs recs v9 (recs.map (·.2)) ∧ Below w.heap.size w wr)
    case atStart => exact ⟨0, g, [], _, 0, [], by omega, rfl, rfl, HIS.out, HB5.out⟩
    case round =>
      obtain ⟨i, g, recs, d, mm, segs, hi, rfl, rfl, hin, hb⟩ := hrel
      clear HIS HB5
      obtain ⟨a9, c9, rfl⟩ := hin.rows.slice
      obtain ⟨R, hR⟩ : ∃ R, (recs.map (·.2)).length = R := ⟨_, rfl⟩
      have hR7 : R ≤ 768 := by rw [← hR, List.length_map]; have h8 := len_le recs; have h9 := hin.is.sys.log.nle; omega
      rw [hR] at hin ⊢
      have HRR := hid hR
      have HI := hid hi
      have HIN := hid hin
      have HB := hid hb
      obtain ⟨ll, hll⟩ : ∃ ll, lenOf recs = ll := ⟨_, rfl⟩
      obtain ⟨la, hla⟩ : ∃ la, lastOf 0 recs = la := ⟨_, rfl⟩
      obtain ⟨sl, hsl⟩ : ∃ sl, segs.length = sl := ⟨_, rfl⟩
      have HLL := hid (And.intro hll (And.intro hla hsl))
      clear hin hb hi hR hll hla hsl
      by_cases hlt : i < n0
      · have hlt' : (i : Int) < (n0 : Int) := by omega
        by_cases hic : i = cc
        · subst hic
          have hice : ((i : Int) == (i : Int)) = true := by simp
          have HWH := hid (where_any HIN.out.is.sys.log)
          rw [HLL.out.1, HLL.out.2.1, HLL.out.2.2] at HWH
          go_wp2_with fail
          refine HWH.out.mono ?_
          rintro e w6 ⟨a6, c6, rfl, hs6, _, _, hz6, hb6⟩
          have HIN6 := hid (HIN.out.below hb6)
          have HB6 := hid (below_tr HB.out hb6 HB.out.size)
          have HLD := hid (load_is HIN6.out.is a6 sl c6 HLL.out.2.2 hs6.irow hz6)
          rw [HLL.out.1, HLL.out.2.1] at HLD
          clear hs6 hz6 hb6 HWH HIN HB
          go_wp2_with fail
          refine HLD.out.mono ?_
          rintro e w7 ⟨g7, v7, rfl, hg7, hl7, ⟨base, hbase, hre7⟩, hb7⟩
          have HIN7 := hid (HIN6.out.load hb7 (by rw [HLL.out.1, HLL.out.2.1]; exact hl7) hg7)
          have HB7 := hid (below_tr HB6.out hb7 HB6.out.size)
          obtain ⟨a7, c7, rfl⟩ := hre7.slice
          rw [HRR.out] at hre7 ⊢
          have HSM := hid (same_any a7 a9 (recs.map (·.2)) (recs.map (·.2)) R c7 R c9 HRR.out HRR.out hre7.grid.2 HIN7.out.rows.grid.2 (by omega))
          clear hre7 hl7 hb7 HIN6 HB6 HLD hbase hg7
          go_wp2_with fail
          refine HSM.out.mono ?_
          rintro e w8 ⟨rfl, j8, hw8⟩
          try rw [decide_eq_true (rfl : recs.map (·.2) = recs.map (·.2))]
          try rw [decide_true]
          have hb8 : Below w7.heap.size w7 w8 := by rw [hw8]; exact to_drewN (Below.refl _ _) _
          have HIN := hid (HIN7.out.below hb8)
          have HB := hid (below_tr HB7.out hb8 HB7.out.size)
          clear hw8 hb8 HIN7 HB7 HSM
          obtain ⟨bg, og, ai, ci, rfl, hgr, hai⟩ := grid_at HG.out (i := i) (by rw [HLS.out]; exact hlt)
          have HGR := hid hgr
          have HAI := hid hai
          obtain ⟨ri, hri⟩ : ∃ ri, ls.getD i [] = ri := ⟨_, rfl⟩
          obtain ⟨rl, hrl⟩ : ∃ rl, ri.length = rl := ⟨_, rfl⟩
          rw [hri] at HGR HAI
          rw [hrl] at HGR
          have HRL := hid hrl
          have hgr8 := HGR.out _ HB.out
          have HPU := hid (put_any HIN.out.is i ai ri rl ci HRL.out hgr8.2)
          have hci8 := hgr8.1
          clear hgr hai hri hrl hgr8 HG
          go_wp2_with fail
          refine HPU.out.mono ?_
          rintro e w9 ⟨z, rfl, hput⟩
          rcases hput with ⟨rfl, hmay, hroom, hb9, zt, his9⟩ | ⟨rfl, hno, hb9, his9⟩ | ⟨rfl, hmay, hroom, hb9, his9⟩
          · have hne : ri ≠ [] := by intro e; rw [e] at hmay; exact absurd hmay.1 (by decide)
            obtain ⟨bb, oo, rfl, hbb⟩ := HAI.out hne
            have hin9 := HIN.out.put hb9 his9
            have HB9 := hid (below_tr' HB.out (HIN.out.low hb9))
            have hgr9 := HGR.out _ HB9.out
            have hci9 := hgr9.1
            obtain ⟨g9, c10, wX, hrunX, hinX, hbX⟩ := hin9.snoc HRR.out (by omega) hgr9.2 HRL.out hne hbb (cc := ci)
            have HBX := hid (below_tr' HB9.out hbX)
            have HRX := hid hrunX
            have HINX := hid hinX
            clear hb9 his9 HIN HB HPU hci8 HAI hmay hroom hin9 hgr9 hrunX hinX hbX HB9
            go_wp2_with (at_builtin; refine step_appl 22 rfl _ _ rfl _ _ rfl rfl _ wX HRX.out ?_)
            go_roundg (gk - 1)
            case measure => have := HI.out; omega
            case rel =>
              refine ⟨i + 1, g7, recs ++ [(i, ri)], lays d (segs ++ List.range' mm zt) (lenOf recs) (secsOf (lenOf recs) i (mk (lastOf 0 recs) i ri)), mm + zt, segs ++ List.range' mm zt, by have := HI.out; omega, by go_num, rfl, ?_, HBX.out⟩
              have := HINX.out
              rw [List.map_append]
              exact this
          · have HIN9 := hid (HIN.out.below hb9)
            have HB9 := hid (below_tr HB.out hb9 HB.out.size)
            clear hb9 his9 HIN HB HPU hci8 HAI hno
            go_wp2_with fail
            go_roundg (gk - 1)
            case measure => have := HI.out; omega
            case rel => exact ⟨i + 1, g7, recs, d, mm, segs, by have := HI.out; omega, by go_num, rfl, HIN9.out, HB9.out⟩
          · have HIN9 := hid (HIN.out.below hb9)
            have HB9 := hid (below_tr HB.out hb9 HB.out.size)
            clear hb9 his9 HIN HB HPU hci8 HAI hmay hroom
            go_wp2_with fail
            go_roundg (gk - 1)
            case measure => have := HI.out; omega
            case rel => exact ⟨i + 1, g7, recs, d, mm, segs, by have := HI.out; omega, by go_num, rfl, HIN9.out, HB9.out⟩
        · have hice : ((i : Int) == (cc : Int)) = false := by simp; omega
          clear hic
          obtain ⟨bg, og, ai, ci, rfl, hgr, hai⟩ := grid_at HG.out (i := i) (by rw [HLS.out]; exact hlt)
          have HGR := hid hgr
          have HAI := hid hai
          obtain ⟨ri, hri⟩ : ∃ ri, ls.getD i [] = ri := ⟨_, rfl⟩
          obtain ⟨rl, hrl⟩ : ∃ rl, ri.length = rl := ⟨_, rfl⟩
          rw [hri] at HGR HAI
          rw [hrl] at HGR
          have HRL := hid hrl
          have hgr8 := HGR.out _ HB.out
          have HPU := hid (put_any HIN.out.is i ai ri rl ci HRL.out hgr8.2)
          have hci8 := hgr8.1
          clear hgr hai hri hrl hgr8 HG
          go_wp2_with fail
          refine HPU.out.mono ?_
          rintro e w9 ⟨z, rfl, hput⟩
          rcases hput with ⟨rfl, hmay, hroom, hb9, zt, his9⟩ | ⟨rfl, hno, hb9, his9⟩ | ⟨rfl, hmay, hroom, hb9, his9⟩
          · have hne : ri ≠ [] := by intro e; rw [e] at hmay; exact absurd hmay.1 (by decide)
            obtain ⟨bb, oo, rfl, hbb⟩ := HAI.out hne
            have hin9 := HIN.out.put hb9 his9
            have HB9 := hid (below_tr' HB.out (HIN.out.low hb9))
            have hgr9 := HGR.out _ HB9.out
            have hci9 := hgr9.1
            obtain ⟨g9, c10, wX, hrunX, hinX, hbX⟩ := hin9.snoc HRR.out (by omega) hgr9.2 HRL.out hne hbb (cc := ci)
            have HBX := hid (below_tr' HB9.out hbX)
            have HRX := hid hrunX
            have HINX := hid hinX
            clear hb9 his9 HIN HB HPU hci8 HAI hmay hroom hin9 hgr9 hrunX hinX hbX HB9
            go_wp2_with (at_builtin; refine step_appl 22 rfl _ _ rfl _ _ rfl rfl _ wX HRX.out ?_)
            go_roundg (gk - 1)
            case measure => have := HI.out; omega
            case rel =>
              refine ⟨i + 1, g, recs ++ [(i, ri)], lays d (segs ++ List.range' mm zt) (lenOf recs) (secsOf (lenOf recs) i (mk (lastOf 0 recs) i ri)), mm + zt, segs ++ List.range' mm zt, by have := HI.out; omega, by go_num, rfl, ?_, HBX.out⟩
              have := HINX.out
              rw [List.map_append]
              exact this
          · have HIN9 := hid (HIN.out.below hb9)
            have HB9 := hid (below_tr HB.out hb9 HB.out.size)
            clear hb9 his9 HIN HB HPU hci8 HAI hno
            go_wp2_with fail
            go_roundg (gk - 1)
            case measure => have := HI.out; omega
            case rel => exact ⟨i + 1, g, recs, d, mm, segs, by have := HI.out; omega, by go_num, rfl, HIN9.out, HB9.out⟩
          · have HIN9 := hid (HIN.out.below hb9)
            have HB9 := hid (below_tr HB.out hb9 HB.out.size)
            clear hb9 his9 HIN HB HPU hci8 HAI hmay hroom
            go_wp2_with fail
            go_roundg (gk - 1)
            case measure => have := HI.out; omega
            case rel => exact ⟨i + 1, g, recs, d, mm, segs, by have := HI.out; omega, by go_num, rfl, HIN9.out, HB9.out⟩
      · have hlt' : ¬ (i : Int) < (n0 : Int) := by omega
        clear HG
        have HWH := hid (where_any HIN.out.is.sys.log)
        rw [HLL.out.1, HLL.out.2.1, HLL.out.2.2] at HWH
        go_wp2_with fail
        refine HWH.out.mono ?_
        rintro e w6 ⟨a6, c6, rfl, hs6, _, _, hz6, hb6⟩
        have HIN6 := hid (HIN.out.below hb6)
        have HB6 := hid (below_tr HB.out hb6 HB.out.size)
        have HLD := hid (load_is HIN6.out.is a6 sl c6 HLL.out.2.2 hs6.irow hz6)
        rw [HLL.out.1, HLL.out.2.1] at HLD
        clear hs6 hz6 hb6 HWH HIN HB
        go_wp2_with fail
        refine HLD.out.mono ?_
        rintro e w7 ⟨g7, v7, rfl, hg7, hl7, ⟨base, hbase, hre7⟩, hb7⟩
        have HIN7 := hid (HIN6.out.load hb7 (by rw [HLL.out.1, HLL.out.2.1]; exact hl7) hg7)
        have HB7 := hid (below_tr HB6.out hb7 HB6.out.size)
        obtain ⟨a7, c7, rfl⟩ := hre7.slice
        rw [HRR.out] at hre7 ⊢
        have HSM := hid (same_any a7 a9 (recs.map (·.2)) (recs.map (·.2)) R c7 R c9 HRR.out HRR.out hre7.grid.2 HIN7.out.rows.grid.2 (by omega))
        clear hre7 hl7 hb7 HIN6 HB6 HLD hbase hg7
        go_wp2_with fail
        refine HSM.out.mono ?_
        rintro e w8 ⟨rfl, j8, hw8⟩
        try rw [decide_eq_true (rfl : recs.map (·.2) = recs.map (·.2))]
        try rw [decide_true]
        have hb8 : Below w7.heap.size w7 w8 := by rw [hw8]; exact to_drewN (Below.refl _ _) _
        have HIN := hid (HIN7.out.below hb8)
        have HB := hid (below_tr HB7.out hb8 HB7.out.size)
        clear hw8 hb8 HIN7 HB7 HSM
        go_wp2_with fail
        go_ret
        exact ⟨rfl, HB.out⟩
end Go.Proofs.Yteohjfhflodklab
