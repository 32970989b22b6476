/- LogSees: up to four bytes of a log are turned: it is found whole only where none that it covers was. No condition. -/
import Derived.Test.YteohjfhflodklaaSeesN
namespace Go.Proofs.Yteohjfhflodklaa
open Go.ChangeShapes Go.WideShapes Go.ChangeAt Go.RowKit Pen
open Crc (four nx run)
set_option maxRecDepth 4000
set_option linter.constructorNameAsVariable false
set_option maxRecDepth 10000 in
set_option maxHeartbeats 1600000 in
theorem logSees_walk (a0 : Option Addr) (ls : List (List Nat)) (n0 c0 : Nat) (A T : Nat) (w : World) (hA : A < 65536) (hT : T < 4294967296) (hls : ls.length = n0) (hnm : n0 ≤ maxLen) (hg : Grid w a0 ls) :
    Calls Try.prog 5 #[.slice a0 n0 c0, .int .u16 (A : Int), .int .u32 (T : Int)] w fun e w' => e = .returned (.bool true) ∧ Below w.heap.size w w' := by
  have HLS := hid hls
  have HNM := hid hnm
  have HG := hid hg
  have HT := hid hT
  have HA := hid hA
  have hA' : (A : Int) < 65536 := by omega
  have hT' : (T : Int) < 4294967296 := by omega
  clear hls hnm hg hA hT
  go_enter Try.func5, Try.ntmps5
  go_wp2_with fail
  refine (awake_any w).mono ?_
  rintro e w1 ⟨rfl, hb1⟩
  have HB1 := hid hb1
  clear hb1
  go_wp2_with fail
  refine (small_any a0 ls n0 c0 HLS.out HNM.out (HG.out.below HB1.out)).mono ?_
  rintro e w2 ⟨⟨b, rfl, h60⟩, rfl⟩
  cases b with
  | false =>
    go_wp2_with fail
    go_ret
    exact ⟨rfl, HB1.out⟩
  | true =>
  have h60 := h60 rfl
  by_cases hT0 : T = 0
  · have hTz : ((T : Int) == 0) = true := by rw [hT0]; rfl
    go_wp2_with fail
    go_ret
    exact ⟨rfl, HB1.out⟩
  have hTz : ((T : Int) == 0) = false := by simp; omega
  have HN := hid (new_any w2 776 (by decide))
  clear hT0
  go_wp2_with fail
  refine HN.out.mono ?_
  rintro e w3 ⟨q, rfl, p, hd3, hb3, hq, hp⟩
  have HD3 := hid hd3
  have HB3 := hid (below_tr HB1.out hb3 HB1.out.size)
  have hq2 : w.heap.size ≤ q := Nat.le_trans HB1.out.size hq
  have hp2 : w.heap.size ≤ p := Nat.le_trans HB1.out.size hp
  clear HN hd3 hb3 hq hp HB1 hTz
  go_wp2_with fail
  refine (Sp.new_any w3 96 96 (by decide)).mono ?_
  rintro e w4 ⟨x, rfl, hs4, hb4, hx⟩
  have HD4 := hid (HD3.out.below hb4)
  have HS4 := hid hs4
  have HB4 := hid (below_tr HB3.out hb4 HB3.out.size)
  have hx2 : w.heap.size ≤ x := Nat.le_trans HB3.out.size hx
  clear HD3 HB3 hs4 hb4 hx
  go_wp2_with fail
  refine (lnew_any w4 q).mono ?_
  rintro e w5 ⟨g, rfl, hl5, hb5, hg5⟩
  have his := start_is (k := 96) (HD4.out.below hb5) (HS4.out.below hb5) hl5
  have HB5 := hid (below_tr HB4.out hb5 HB4.out.size)
  have hg2 : w.heap.size ≤ g := Nat.le_trans HB4.out.size hg5
  have hlt5 := his.sys.disk.lt
  have hltx := his.sys.space.lt
  have hltg := his.sys.log.glt
  have HIS : Hid (Ing w.heap.size w5.heap.size w5 g q p x (fresh (8 + 8 * 96)) 96 0 [] [] (.slice none 0 0) []) := ⟨his, recs_nil _ _ _, Nat.le_refl _, fun j e => by rcases e with rfl | rfl | rfl | rfl <;> omega, HB5.out.size⟩
  clear HD4 HS4 HB4 hl5 hb5 hg5 his hlt5 hltx hltg hg2 hx2 hq2 hp2
  go_wp2_with fail
  go_loopg [11, 12] n0 (fun gk v11 v12 wr => ∃ (i : Nat) (recs : List (Nat × List Nat)) (d : Dk) (mm : Nat) (segs : List Nat), i + gk = n0 ∧ v12 = .int .i64 (i : Int) ∧ Ing w.heap.size w5.heap.size wr g q p x d 96 mm segs recs v11 (recs.map (·.2)) ∧ Below w.heap.size w wr)
  case atStart => exact ⟨0, [], _, 0, [], by omega, rfl, HIS.out, HB5.out⟩
  case round =>
    obtain ⟨i, recs, d, mm, segs, hi, rfl, hin, hb⟩ := hrel
    clear HIS HB5
    obtain ⟨a9, c9, rfl⟩ := hin.rows.slice
    obtain ⟨R, hR⟩ : ∃ R, (recs.map (·.2)).length = R := ⟨_, rfl⟩
    have hRl : recs.length = R := by rw [← hR, List.length_map]
    have hL7 : lenOf recs ≤ 768 := hin.is.sys.log.nle
    have hR7 : R ≤ 768 := by rw [← hRl]; have h8 := len_le recs; omega
    rw [hR] at hin ⊢
    have HRR := hid hR
    have HI := hid hi
    by_cases hlt : i < n0
    · have hlt' : (i : Int) < (n0 : Int) := by omega
      obtain ⟨bg, og, ai, ci, rfl, hgr, hai⟩ := grid_at HG.out (i := i) (by rw [HLS.out]; exact hlt)
      have HGR := hid hgr
      have HAI := hid hai
      obtain ⟨ri, hri⟩ : ∃ ri, ls.getD i [] = ri := ⟨_, rfl⟩
      obtain ⟨rl, hrl⟩ : ∃ rl, ri.length = rl := ⟨_, rfl⟩
      rw [hri] at HGR HAI
      rw [hrl] at HGR
      have HRI := hid hrl
      have HIN := hid hin
      have HB := hid hb
      have hgr8 := HGR.out _ hb
      have HPU := hid (put_any hin.is 0 ai ri rl ci hrl hgr8.2)
      rw [show (((0 : Nat) : Int)) = 0 from rfl] at HPU
      have hci8 := hgr8.1
      clear hin hb hgr hai hri hrl hi hR hRl hgr8
      go_wp2_with fail
      refine HPU.out.mono ?_
      rintro e w9 ⟨z, rfl, hput⟩
      rcases hput with ⟨rfl, hmay, hroom, hb9, zt, his9⟩ | ⟨rfl, hno, hb9, his9⟩ | ⟨rfl, hmay, hroom, hb9, his9⟩
      · have hne : ri ≠ [] := by intro e; rw [e] at hmay; exact absurd hmay.1 (by decide)
        obtain ⟨bb, oo, rfl, hbb⟩ := HAI.out hne
        have hin9 := HIN.out.put hb9 his9
        have hlow9 := HIN.out.low hb9
        have HB9 := hid (below_tr' HB.out hlow9)
        have hgr9 := HGR.out _ HB9.out
        have hci9 := hgr9.1
        obtain ⟨g9, c10, wX, hrunX, hinX, hbX, hkX⟩ := hin9.snoc HRR.out (by omega) hgr9.2 HRI.out hne hbb (cc := ci)
        have HBX := hid (below_tr' HB9.out hbX)
        have HRX := hid hrunX
        have HINX := hid hinX
        clear hb9 his9 HIN HB HPU hci8 HAI hmay hroom hin9 hlow9 hgr9 hrunX hinX hbX hkX HB9
        go_wp2_with (at_builtin; refine step_appl 22 rfl _ _ rfl _ _ rfl rfl _ wX HRX.out ?_)
        go_roundg (gk - 1)
        case measure => have := HI.out; omega
        case rel =>
          refine ⟨i + 1, recs ++ [(0, ri)], lays d (segs ++ List.range' mm zt) (lenOf recs) (secsOf (lenOf recs) 0 (mk (lastOf 0 recs) 0 ri)), mm + zt, segs ++ List.range' mm zt, by have := HI.out; omega, by go_num, ?_, HBX.out⟩
          have := HINX.out
          rw [List.map_append]
          exact this
      · have HIN9 := hid (HIN.out.below hb9)
        have HB9 := hid (below_tr HB.out hb9 HB.out.size)
        clear hb9 his9 HIN HB HPU hci8 HAI hno
        go_wp2_with fail
        go_roundg (gk - 1)
        case measure => have := HI.out; omega
        case rel => exact ⟨i + 1, recs, d, mm, segs, by have := HI.out; omega, by go_num, HIN9.out, HB9.out⟩
      · have HIN9 := hid (HIN.out.below hb9)
        have HB9 := hid (below_tr HB.out hb9 HB.out.size)
        clear hb9 his9 HIN HB HPU hci8 HAI hmay hroom
        go_wp2_with fail
        go_roundg (gk - 1)
        case measure => have := HI.out; omega
        case rel => exact ⟨i + 1, recs, d, mm, segs, by have := HI.out; omega, by go_num, HIN9.out, HB9.out⟩
    · have hlt' : ¬ (i : Int) < (n0 : Int) := by omega
      obtain ⟨sl, hsl⟩ : ∃ sl, segs.length = sl := ⟨_, rfl⟩
      obtain ⟨ll, hll⟩ : ∃ ll, lenOf recs = ll := ⟨_, rfl⟩
      obtain ⟨la, hla⟩ : ∃ la, lastOf 0 recs = la := ⟨_, rfl⟩
      have HLL := hid (And.intro hll (And.intro hla hsl))
      have HWH := hid (where_any hin.is.sys.log)
      rw [hll, hla, hsl] at HWH
      have hll7 : (ll : Int) ≤ 768 := by omega
      have hsl96 : sl ≤ 96 := by rw [← hsl]; exact hin.is.sys.log.len
      obtain ⟨M0, hM0⟩ : ∃ M0 : Nat, (ll : Int) * 64 = (M0 : Int) := ⟨ll * 64, by omega⟩
      obtain ⟨M, hM⟩ : ∃ M : Nat, (M0 : Int) + 40 = (M : Int) := ⟨M0 + 40, by omega⟩
      have hM0' : (M0 : Int) ≤ 49152 := by omega
      have hM' : (M : Int) ≤ 49192 := by omega
      obtain ⟨K, hK⟩ : ∃ K, A % M = K := ⟨_, rfl⟩
      have hmod : (A : Int) % (M : Int) = (K : Int) := by rw [← hK]; rfl
      have h0n : ¬ M = 0 := by omega
      have hKM := Nat.mod_lt A (show 0 < M by omega)
      rw [hK] at hKM
      have hK' : (K : Int) ≤ 49192 := by omega
      have HMM := hid (And.intro hM0 (And.intro hM hKM))
      have HIN := hid hin
      have HB := hid hb
      clear hin hb hi hR hRl hll hla hsl hK hKM hlt
      go_wp2_with fail
      refine HWH.out.mono ?_
      rintro e w7 ⟨a6, c6, rfl, hsr, _, hc6, hz6, hb7⟩
      have hbA : Below w7.heap.size w7 (w7.alloc (.cells #[.slice a6 sl c6, .int .i64 (ll : Int), .int .u32 (la : Int)] 36)) := (Below.refl _ w7).alloc (Nat.le_refl _) _
      have hbox := heap_alloc_new w7 (.cells #[.slice a6 sl c6, .int .i64 (ll : Int), .int .u32 (la : Int)] 36)
      have HST := hid (box36 w7 a6 sl c6 (ll : Int) (la : Int))
      have HIN8 := hid ((HIN.out.below hb7).below hbA)
      have hbAA := below_tr hb7 hbA hb7.size
      have HB8 := hid (below_tr HB.out hbAA HB.out.size)
      have HSR8 := hid (hsr.below hbA)
      have HYT : Hid (w5.heap.size ≤ w7.heap.size) := Nat.le_trans HIN.out.past hb7.size
      have b1 : (w7.alloc (.cells #[.slice a6 sl c6, .int .i64 (ll : Int), .int .u32 (la : Int)] 36)).cell? ⟨w7.heap.size, 1, none⟩ = some (.int .i64 (ll : Int)) := by rw [cell_of_row _ _ 1 _ 36 (0, 0) hbox]; rfl
      have HBOX := hid hbox
      have HC6 := hid (And.intro hc6 hz6)
      clear hsr hc6 hz6 hb7 hbA hbox hbAA HIN HB HWH
      go_wp2_with (first | refine step_store 36 rfl _ _ rfl _ HST.out ?_)
      obtain ⟨yb, hyb⟩ : ∃ yb, w7.heap.size = yb := ⟨_, rfl⟩
      rw [hyb] at HBOX HYT b1
      try rw [hyb]
      rw [hmod]
      generalize w7.alloc (.cells #[.slice a6 sl c6, .int .i64 (ll : Int), .int .u32 (la : Int)] 36) = w8 at *
      clear hyb HST b1 hM0 hM hmod h0n hM'
      have hq0 : ∀ j, (j = q ∨ j = p) → j < w5.heap.size ∧ w.heap.size ≤ j := fun j e => HIN8.out.far j (by rcases e with e | e; exact .inl e; exact .inr (.inl e))
      have HFAR := hid hq0
      have HTAG := hid HIN8.out.is.sys.disk.tag
      have HHAS := hid HIN8.out.is.sys.has
      have HD8 := hid HIN8.out.is.sys.disk
      have HDEAD := hid HIN8.out.is.sys.dead
      have HNI : Hid (NoInts (fun j => j = q ∨ j = p) w8) := noInts_of (fun j e => by rcases e with rfl | rfl; exact ⟨66, HTAG.out.1, by decide⟩; exact ⟨86, HTAG.out.2, by decide⟩)
      have HYB := hid (Array.getElem?_eq_some_iff.1 HBOX.out).1
      clear hq0
      go_loopg [15, 16] 4 (fun gk v15 v16 wr => ∃ (i : Nat) (d' : Dk) (c : Bool), i + gk = 4 ∧ v16 = .int .i64 (i : Int) ∧ v15 = .bool c ∧ c = struck K T ll i ∧ Bent d d' segs K T i ∧ DiskAt wr q p d' ∧ But (fun j => j = q ∨ j = p) w8 wr)
      case atStart => exact ⟨0, d, false, rfl, rfl, rfl, (struck_zero K T ll).symm, Bent.start d segs K T, HD8.out, But.refl _ _⟩
      case round =>
        obtain ⟨i, d', c, hi, rfl, rfl, hstr, hben, hd', hbut⟩ := hrel
        have hSY : ¬ (yb = q ∨ yb = p) := fun e => by have := HFAR.out yb e; have := HYT.out; omega
        have hboxr := (hbut.block yb HYB.out hSY).trans HBOX.out
        have hsrr := HSR8.out.but hbut HNI.out
        have HI := hid hi
        have HSTR := hid hstr
        have HBEN := hid hben
        have HDR := hid hd'
        have HBUT := hid hbut
        have b0 : wr.cell? ⟨yb, 0, none⟩ = some (.slice a6 sl c6) := by rw [cell_of_row _ _ 0 _ 36 (0, 0) hboxr]; rfl
        have b1 : wr.cell? ⟨yb, 1, none⟩ = some (.int .i64 (ll : Int)) := by rw [cell_of_row _ _ 1 _ 36 (0, 0) hboxr]; rfl
        have HSRR := hid hsrr
        have HBXR := hid hboxr
        have HLD36 := hid (load36 hboxr)
        clear hi hstr hben hd' hbut hsrr hboxr hSY
        by_cases hlt : i < 4
        · have hlt' : (i : Int) < 4 := by omega
          obtain ⟨n, hn⟩ : ∃ n, (K + i) / 512 = n := ⟨_, rfl⟩
          have hnI : ((K : Int) + (i : Int)) / 512 = (n : Int) := by omega
          by_cases hbr : sl ≤ n
          · have hge : (sl : Int) ≤ (n : Int) := by omega
            go_wp2_with (refine step_load 36 rfl _ rfl _ HLD36.out ?_)
            have hllS : ll ≤ 8 * segs.length := by have := HIN8.out.is.sys.fit; rw [HLL.out.1] at this; exact this
            have hasd : Has d' segs := fun s hs => by rw [HBEN.out.len]; exact HHAS.out s hs
            have hi4 : i ≤ 4 := by have := HI.out; omega
            have hTU := HBEN.out.turned hi4 hllS (disk_bytes HD8.out HHAS.out) (disk_bytes HDR.out hasd)
            have hLO := load_any HDR.out (HBEN.out.dead.trans HDEAD.out) segs a6 sl c6 ll la HLL.out.2.2 HSRR.out.irow hasd (by omega) HC6.out.2
            have hlowr : Below w.heap.size w8 wr := HBUT.out.below (fun j e => (HFAR.out j e).2) (by have := HIN8.out.past; have := HIN8.out.st; omega)
            have HBR := hid (below_tr' HB8.out hlowr)
            have hrowr := HIN8.out.rows.but HBUT.out (fun j e => ⟨(HFAR.out j e).1, by have := (HFAR.out j e).2; omega⟩)
            have HTU := hid hTU
            have HLO := hid hLO
            have HROW := hid hrowr
            have HLLS := hid hllS
            have HMISS := hid (fun h : c = false => HBEN.out.miss HLLS.out (by rw [← HSTR.out]; exact h))
            have HHIT := hid (fun h : c = true => HBEN.out.hit HLLS.out (by rw [← HSTR.out]; exact h))
            clear hllS hasd hi4 hTU hLO hlowr hrowr b0 b1 HLD36
            refine HLO.out.mono ?_
            rintro e wB ⟨hbB, hld⟩
            have HBB := hid (below_tr HBR.out hbB HBR.out.size)
            have hat := HIN8.out.is.at_
            have hok := HIN8.out.is.ok
            cases c with
            | true =>
              have hsees := turned_sees (rs := recs) (by rw [HLL.out.1]; exact HTU.out) hok hat (by rw [HLL.out.1]; exact HHIT.out rfl)
              rw [HLL.out.1] at hsees
              rcases hld with ⟨_, hbad, _⟩ | ⟨_, rfl⟩
              · omega
              · clear hsees hat hok hbB HLO
                go_wp2_with fail
                go_ret
                exact ⟨rfl, HBB.out⟩
            | false =>
              have hsame := turned_not HTU.out (HMISS.out rfl)
              have hat2 : At (pl d' segs) 0 (lay 0 0 recs) := hat.same (fun n hn => by rw [lay_len] at hn; rw [Nat.zero_add]; exact hsame n (by rw [← HLL.out.1]; omega))
              have hsc := scan_all hok hat2
              rw [HLL.out.1] at hsc
              rw [hsc] at hld
              rcases hld with ⟨_, _, _, g7, v7, rfl, hg7, hl7, base, hbase, hre7⟩ | ⟨hno, _⟩
              · obtain ⟨a7, c7, rfl⟩ := hre7.slice
                rw [HRR.out] at hre7 ⊢
                have hgr := (HROW.out.below hbB).grid.2
                have HSM := hid (same_any a7 a9 (recs.map (·.2)) (recs.map (·.2)) R c7 R c9 HRR.out HRR.out hre7.grid.2 hgr (by omega))
                clear hsame hat hat2 hsc hre7 hl7 hbase hg7 hgr hok hbB HLO
                go_wp2_with fail
                refine HSM.out.mono ?_
                rintro e wC ⟨rfl, j14, hw14⟩
                try rw [decide_eq_true (rfl : recs.map (·.2) = recs.map (·.2))]
                try rw [decide_true]
                have HBC : Hid (Below w.heap.size w wC) := by rw [hw14]; exact to_drewN HBB.out _
                clear hw14
                go_wp2_with fail
                go_ret
                exact ⟨rfl, HBC.out⟩
              · exact absurd ⟨HLLS.out, HLL.out.1, HLL.out.2.1⟩ hno
          · have hge : ¬ (sl : Int) ≤ (n : Int) := by omega
            have hge' : (n : Int) < (sl : Int) := by omega
            have hnl : n < (iv segs).length := by rw [iv_len, HLL.out.2.2]; omega
            obtain ⟨bs, os, rfl, hbs, hcs⟩ := HSRR.out.irow.cell (by intro e; rw [e] at hnl; simp at hnl)
            have hcn := hcs n hnl
            rw [iv_get] at hcn
            obtain ⟨sg, hsg⟩ : ∃ sg, segs.getD n 0 = sg := ⟨_, rfl⟩
            rw [hsg] at hcn
            have hsg96 : sg < 96 := by
              rw [← hsg]
              refine HIN8.out.is.sys.log.lt _ ?_
              have hnl2 : n < segs.length := by rw [HLL.out.2.2]; omega
              simp [hnl2]
            have hsgI : (0 : Int) ≤ (sg : Int) ∧ (sg : Int) < 96 := by omega
            have hsg8 : (sg : Int) * 8 ≤ 760 := by omega
            have hmm8 : ((K : Int) + (i : Int)) % 512 / 64 ≤ 8 := by omega
            have hmm0 : (0 : Int) ≤ ((K : Int) + (i : Int)) % 512 / 64 := by omega
            obtain ⟨N, hN⟩ : ∃ N, (K + i) / 64 = N := ⟨_, rfl⟩
            have hnum : 8 + (sg : Int) * 8 + ((K : Int) + (i : Int)) % 512 / 64 = ((num segs N : Nat) : Int) := by
              have e1 : N / 8 = n := by omega
              have e2 : ((K + i) % 512) / 64 = N % 8 := by omega
              unfold num
              rw [e1, hsg]
              omega
            have hN8 : N < 8 * segs.length := by rw [HLL.out.2.2]; omega
            have hasd : Has d' segs := fun s hs => by rw [HBEN.out.len]; exact HHAS.out s hs
            have hpl := (disk_bytes HDR.out hasd N hN8)
            have HRD := hid (read_ok HDR.out (HBEN.out.dead.trans HDEAD.out) (num_lt hasd hN8))
            have HNUM := hid hnum
            have HN8 := hid hN8
            have HNN := hid hN
            have HASD := hid hasd
            have HPL := hid hpl
            have HSG := hid hsg
            have HNI2 := hid hnI
            clear hnum hN8 hN hasd hpl hsg hsg96 hcs hnl
            go_wp2_with fail
            refine (Sp.first_any wr (sg : Int)).mono ?_
            rintro e wr1 ⟨rfl, rfl⟩
            rw [if_pos hsgI]
            go_wp2_with fail
            rw [HNUM.out]
            refine HRD.out.mono ?_
            rintro e w2 ⟨g2, rfl, hbuf, hb2, hg2⟩
            obtain ⟨bl, hbl⟩ : ∃ bl, d'.read (num segs N) = bl := ⟨_, rfl⟩
            have hbl2 : pl d' segs N = bl := hbl
            rw [hbl] at hbuf
            have HPB := HPL
            rw [hbl2] at HPB
            obtain ⟨j, hj⟩ : ∃ j, (K + i) % 64 = j := ⟨_, rfl⟩
            have hjI : ((K : Int) + (i : Int)) % 64 = (j : Int) := by omega
            have hj64 : (j : Int) < 64 := by omega
            have hc := hbuf.cell j (by rw [HPB.out.1]; omega)
            obtain ⟨yy, hyy⟩ : ∃ yy, bl.getD j 0 = yy := ⟨_, rfl⟩
            rw [hyy] at hc
            have hyl : yy < 256 := by rw [← hyy]; exact getD_lt HPB.out.2 _
            obtain ⟨ty, htyN⟩ : ∃ ty, T / 2 ^ (8 * i) % 256 = ty := ⟨_, rfl⟩
            have htl : ty < 256 := by rw [← htyN]; exact Nat.mod_lt _ (by decide)
            have hty : (T : Int) / 2 ^ (8 * i) % 256 = (ty : Int) := by rw [← htyN]; push_cast; rfl
            have hx : bits .xor .u8 (yy : Int) (ty : Int) = ((yy ^^^ ty : Nat) : Int) := u8_xor_nat yy ty hyl htl
            have hxl : yy ^^^ ty < 256 := Nat.xor_lt_two_pow (n := 8) hyl htl
            have hal : Below w2.heap.size w2 (w2.alloc (.cells #[.int .u8 ((yy ^^^ ty : Nat) : Int)] 5)) := (Below.refl _ w2).alloc (Nat.le_refl _) _
            have hd3 := (HDR.out.below hb2).below hal
            have hr3 : Row (w2.alloc (.cells #[.int .u8 ((yy ^^^ ty : Nat) : Int)] 5)) (some ⟨w2.heap.size, 0, none⟩) [yy ^^^ ty] := row_new w2 [yy ^^^ ty] (by simpa using hxl) 5 (0, 0)
            have hplt : p < w2.heap.size := Nat.lt_of_lt_of_le HDR.out.lt.2 hb2.size
            have HSP := hid (spoil_ok hd3 (num_lt HASD.out HN8.out) (some ⟨w2.heap.size, 0, none⟩) [yy ^^^ ty] 1 1 hr3 rfl (by simp) (fun x e => by cases e; show w2.heap.size ≠ p; omega) (y := j) (by omega))
            have hstep := HBEN.out.step HHAS.out HIN8.out.is.nodup HN8.out (y := j) (by omega) (by have := HNN.out; omega) HPL.out.1
            rw [hbl2, hyy, htyN] at hstep
            have HSTEP := hid hstep
            have HTY := hid htyN
            have HX := hid hx
            have HB3 := hid (hb2.trans (hal.mono hb2.size))
            clear hbl hbl2 hj hyy htyN hxl hyl htl hal hd3 hr3 hplt hstep hx hb2 hg2
            rw [hty]
            go_wp2_with fail
            rw [HX.out]
            try rw [hjI]
            refine HSP.out.mono ?_
            rintro e w4 ⟨rfl, hd4, ho4⟩
            have hbut4 := (HBUT.out.trans (below_but (fun j => j = q ∨ j = p) HB3.out) (fun k e => .inl e)).trans ho4.but (fun k e => .inl (e.elim .inl (fun e => .inr (by simpa using e))))
            have hbox4 := (hbut4.block yb HYB.out (fun e => by have := HFAR.out yb e; have := HYT.out; omega)).trans HBOX.out
            have b1 : w4.cell? ⟨yb, 1, none⟩ = some (.int .i64 (ll : Int)) := by rw [cell_of_row _ _ 1 _ 36 (0, 0) hbox4]; rfl
            have HD4 := hid hd4
            have HBUT4 := hid hbut4
            have HB4 := hid hbox4
            have hss := struck_succ K T ll i
            rw [HTY.out, ← HSTR.out] at hss
            have HSS := hid hss
            clear hd4 ho4 hbut4 hbox4 HDR HBUT HBXR HLD36 HSRR HB3 b0 hc hbuf hcn hss
            cases c with
            | true =>
              go_wp2_with fail
              go_roundg (gk - 1)
              case measure => have := HI.out; omega
              case rel => exact ⟨i + 1, _, _, by have := HI.out; omega, by go_num, rfl, by rw [HSS.out]; rfl, HSTEP.out, HD4.out, HBUT4.out⟩
            | false =>
              by_cases htz : ty = 0
              · have htzI : ((ty : Int) != 0) = false := by rw [htz]; rfl
                go_wp2_with fail
                go_roundg (gk - 1)
                case measure => have := HI.out; omega
                case rel => exact ⟨i + 1, _, _, by have := HI.out; omega, by go_num, rfl, by rw [HSS.out, htz]; rfl, HSTEP.out, HD4.out, HBUT4.out⟩
              · have htzI : ((ty : Int) != 0) = true := by simp; omega
                by_cases hcm : K + i < 64 * ll
                · have hcmI : (K : Int) + (i : Int) < (ll : Int) * 64 := by omega
                  go_wp2_with fail
                  go_roundg (gk - 1)
                  case measure => have := HI.out; omega
                  case rel => exact ⟨i + 1, _, _, by have := HI.out; omega, by go_num, rfl, by rw [HSS.out, decide_eq_true hcm, show (ty != 0) = true by simpa using htz]; rfl, HSTEP.out, HD4.out, HBUT4.out⟩
                · have hcmI : ¬ (K : Int) + (i : Int) < (ll : Int) * 64 := by omega
                  go_wp2_with fail
                  go_roundg (gk - 1)
                  case measure => have := HI.out; omega
                  case rel => exact ⟨i + 1, _, _, by have := HI.out; omega, by go_num, rfl, by rw [HSS.out, decide_eq_false hcm]; simp; omega, HSTEP.out, HD4.out, HBUT4.out⟩
        · have hlt' : ¬ (i : Int) < 4 := by omega
          go_wp2_with (refine step_load 36 rfl _ rfl _ HLD36.out ?_)
          have hllS : ll ≤ 8 * segs.length := by have := HIN8.out.is.sys.fit; rw [HLL.out.1] at this; exact this
          have hasd : Has d' segs := fun s hs => by rw [HBEN.out.len]; exact HHAS.out s hs
          have hi4 : i ≤ 4 := by have := HI.out; omega
          have hTU := HBEN.out.turned hi4 hllS (disk_bytes HD8.out HHAS.out) (disk_bytes HDR.out hasd)
          have hLO := load_any HDR.out (HBEN.out.dead.trans HDEAD.out) segs a6 sl c6 ll la HLL.out.2.2 HSRR.out.irow hasd (by omega) HC6.out.2
          have hlowr : Below w.heap.size w8 wr := HBUT.out.below (fun j e => (HFAR.out j e).2) (by have := HIN8.out.past; have := HIN8.out.st; omega)
          have HBR := hid (below_tr' HB8.out hlowr)
          have hrowr := HIN8.out.rows.but HBUT.out (fun j e => ⟨(HFAR.out j e).1, by have := (HFAR.out j e).2; omega⟩)
          have HTU := hid hTU
          have HLO := hid hLO
          have HROW := hid hrowr
          have HLLS := hid hllS
          have HMISS := hid (fun h : c = false => HBEN.out.miss HLLS.out (by rw [← HSTR.out]; exact h))
          have HHIT := hid (fun h : c = true => HBEN.out.hit HLLS.out (by rw [← HSTR.out]; exact h))
          clear hllS hasd hi4 hTU hLO hlowr hrowr b0 b1 HLD36
          refine HLO.out.mono ?_
          rintro e wB ⟨hbB, hld⟩
          have HBB := hid (below_tr HBR.out hbB HBR.out.size)
          have hat := HIN8.out.is.at_
          have hok := HIN8.out.is.ok
          cases c with
          | true =>
            have hsees := turned_sees (rs := recs) (by rw [HLL.out.1]; exact HTU.out) hok hat (by rw [HLL.out.1]; exact HHIT.out rfl)
            rw [HLL.out.1] at hsees
            rcases hld with ⟨_, hbad, _⟩ | ⟨_, rfl⟩
            · omega
            · clear hsees hat hok hbB HLO
              go_wp2_with fail
              go_ret
              exact ⟨rfl, HBB.out⟩
          | false =>
            have hsame := turned_not HTU.out (HMISS.out rfl)
            have hat2 : At (pl d' segs) 0 (lay 0 0 recs) := hat.same (fun n hn => by rw [lay_len] at hn; rw [Nat.zero_add]; exact hsame n (by rw [← HLL.out.1]; omega))
            have hsc := scan_all hok hat2
            rw [HLL.out.1] at hsc
            rw [hsc] at hld
            rcases hld with ⟨_, _, _, g7, v7, rfl, hg7, hl7, base, hbase, hre7⟩ | ⟨hno, _⟩
            · obtain ⟨a7, c7, rfl⟩ := hre7.slice
              rw [HRR.out] at hre7 ⊢
              have hgr := (HROW.out.below hbB).grid.2
              have HSM := hid (same_any a7 a9 (recs.map (·.2)) (recs.map (·.2)) R c7 R c9 HRR.out HRR.out hre7.grid.2 hgr (by omega))
              clear hsame hat hat2 hsc hre7 hl7 hbase hg7 hgr hok hbB HLO
              go_wp2_with fail
              refine HSM.out.mono ?_
              rintro e wC ⟨rfl, j14, hw14⟩
              try rw [decide_eq_true (rfl : recs.map (·.2) = recs.map (·.2))]
              try rw [decide_true]
              have HBC : Hid (Below w.heap.size w wC) := by rw [hw14]; exact to_drewN HBB.out _
              clear hw14
              go_wp2_with fail
              go_ret
              exact ⟨rfl, HBC.out⟩
            · exact absurd ⟨HLLS.out, HLL.out.1, HLL.out.2.1⟩ hno
end Go.Proofs.Yteohjfhflodklaa
