/- ChunkPlays, as it is walked: whatever is put, set, dropped and asked for, the store answers as a list of pieces does. No condition. -/
import Derived.Test.YtenjhmlgimnnoaaPlaysN
import Derived.Deep.CutBlock
import Derived.Deep.RegionHeldLaw
namespace Go.Proofs.Ytenjhmlgimnnoaa
open Go.ChangeShapes Go.WideShapes Go.ChangeAt Go.RowKit Pen
set_option maxRecDepth 4000
set_option linter.unusedVariables false
attribute [local go_sem ↓] Go.wp_at_zero Go.wp_at_succ
set_option maxRecDepth 20000 in
set_option maxHeartbeats 8000000 in
theorem plays_all {w : World} (a : Option Addr) (ls : List Dd) (n cap : Nat) (hn : ls.length = n) (hg : Deeds w a ls) :
    Calls Try.prog 3 #[.slice a n cap] w fun e w' => e = .returned (.bool true) ∧ Below w.heap.size w w' := by
  by_cases h6 : 200 < n
  ·
    as_aux_lemma =>
      have g6 : (200 : Int) < (n : Int) := by omega
      clear hn hg
      go_enter Try.func3, Try.ntmps3
      go_wp2_with fail
      refine (awake_any w).mono ?_
      rintro e w1 ⟨rfl, hb1⟩
      have HB1 := hid hb1
      clear hb1
      go_wp2_with fail
      go_ret
      exact ⟨rfl, HB1.out⟩
  have g6 : ¬ (200 : Int) < (n : Int) := by omega
  have HN := hid hn
  have HG := hid hg
  clear hn hg
  go_enter Try.func3, Try.ntmps3
  go_wp2_with fail
  refine (awake_any w).mono ?_
  rintro e w1 ⟨rfl, hb1⟩
  have HB1 := hid hb1
  clear hb1
  go_wp2_with fail
  refine (new_any (w := w1)).mono ?_
  rintro e w2 ⟨rfl, rfl⟩
  have hck0 := CkAt.new (w1.heap.size + 1) w1
  have HB2 := hid (HB1.out.trans ((Below.refl w.heap.size w1).alloc HB1.out.size (.cells #[.map none, .map none, .int .i64 0] 55)))
  have hs2 : (w1.alloc (.cells #[.map none, .map none, .int .i64 0] 55)).heap.size = w1.heap.size + 1 := by simp
  have hq : w.heap.size ≤ w1.heap.size := HB1.out.size
  generalize w1.alloc (.cells #[.map none, .map none, .int .i64 0] 55) = w2 at *
  obtain ⟨q, hqe⟩ : ∃ q, w1.heap.size = q := ⟨_, rfl⟩
  rw [hqe] at hck0 hs2 hq ⊢
  have HP0 : Hid (Pl w w2 q 0 ⟨[], 0⟩ (.slice none 0 0)) := ⟨hck0, MRow.nil _ _, by simp, HB2.out, hq, by omega⟩
  clear hck0 hs2 hqe hq
  go_wp2_with fail
  go_loopg [4, 5, 6] n (fun gk v4 v5 v6 wr => ∃ (i nx : Nat) (s : St) (ma : Option Addr) (mc N : Nat), i + gk = n ∧ v6 = .int .i64 (i : Int) ∧ v4 = .slice ma N mc ∧ v5 = .int .i64 (nx : Int) ∧ Hid (s.last + 1 = nx) ∧ Hid (s.ps.length = N) ∧ Hid (N ≤ mc) ∧ Hid (Pl w wr q i s (.slice ma N mc)))
  case atStart => exact ⟨0, 1, ⟨[], 0⟩, none, 0, 0, by omega, rfl, rfl, rfl, hid rfl, hid rfl, hid (Nat.le_refl _), HP0⟩
  case round =>
    obtain ⟨i, nx, s, ma, mc, N, hi, rfl, rfl, rfl, HNX, HPN, HMC, HP⟩ := hrel
    by_cases hlt : i < n
    · have g : (i : Int) < (n : Int) := by omega
      obtain ⟨b0, o0, rfl, hblt, hcs⟩ := (HG.out.below HP.out.bel).at_ (by intro e; have := HN.out; rw [e] at this; simp at this; omega)
      obtain ⟨e0, e1, e2, hrow, hz0, hz1⟩ := hcs i (by rw [HN.out]; exact hlt)
      have hroww : Row w (ls.getD i dd0).a (ls.getD i dd0).b := by
        obtain ⟨_, _, _, _, hw⟩ := HG.out.at_ (by intro e; have := HN.out; rw [e] at this; simp at this; omega)
        exact (hw i (by rw [HN.out]; exact hlt)).2.2.2.1
      have hN400 : N ≤ 400 := by
        have h9 := HP.out.ck.few
        rw [HPN.out] at h9
        omega
      obtain ⟨xd, hxd⟩ : ∃ xd, ls.getD i dd0 = xd := ⟨_, rfl⟩
      rw [hxd] at e0 e1 e2 hrow hz0 hz1 hroww
      obtain ⟨xdo, xn, xb, xa, xc⟩ := xd
      simp only at e0 e1 e2 hrow hz0 hz1 hroww
      have HRW := hid hroww
      obtain ⟨nb, hnb⟩ : ∃ nb, xb.length = nb := ⟨_, rfl⟩
      rw [hnb] at e2
      have HNB := hid hnb
      have HROW := hid hrow
      have HZ := hid (And.intro hz0 hz1)
      have HBW := hid HP.out.bel
      clear hcs hrow hz0 hz1 hnb hblt hxd hroww
      by_cases h200 : (200 : Int) < (nb : Int)
      · go_wp2_with fail
        go_ret
        exact ⟨rfl, HBW.out.alloc HBW.out.size _⟩
      by_cases h40 : (1099511627776 : Int) < xn
      · go_wp2_with fail
        go_ret
        exact ⟨rfl, HBW.out.alloc HBW.out.size _⟩
      have hbo := (Below.refl wr.heap.size wr).alloc (Nat.le_refl _) (.cells #[.int .i64 xdo, .int .i64 xn, .slice xa nb xc] 29)
      have HPA := hid (HP.out.below hbo)
      have HRA := hid (HROW.out.below hbo)
      have HDD := hid (heap_alloc_new wr (.cells #[.int .i64 xdo, .int .i64 xn, .slice xa nb xc] 29))
      clear hbo
      go_wp2_with fail
      generalize wr.alloc (.cells #[.int .i64 xdo, .int .i64 xn, .slice xa nb xc] 29) = V0 at HPA HRA HDD ⊢
      generalize wr.heap.size = dd at HDD ⊢
      clear HP HROW HBW e0 e1 e2
      obtain ⟨G, hG⟩ : ∃ G, G = gk := ⟨_, rfl⟩
      subst hG
      go_loopg [8, 9, 10] N (fun gk v8 v9 v10 wr => ∃ k : Nat, k + gk = N ∧ v10 = .int .i64 (k : Int) ∧ v8 = .int .i64 (hit (fun p => decide (p.2 = xb)) s.ps k) ∧ v9 = .int .i64 (hit (fun p => decide ((p.1 : Int) = xn)) s.ps k) ∧ Hid (Below V0.heap.size V0 wr))
      case atStart => exact ⟨0, by omega, rfl, rfl, rfl, hid (Below.refl _ _)⟩
      case round =>
        obtain ⟨k, hk, rfl, rfl, rfl, HB⟩ := hrel
        obtain ⟨T, hT⟩ : ∃ T, hit (fun p => decide (p.2 = xb)) s.ps k = T := ⟨_, rfl⟩
        obtain ⟨I, hI⟩ : ∃ I, hit (fun p => decide ((p.1 : Int) = xn)) s.ps k = I := ⟨_, rfl⟩
        rw [hT, hI]
        have HT := hid hT
        have HI := hid hI
        clear hT hI
        have hds := (HB.out.block dd (lt_of_some HDD.out)).trans HDD.out
        have hddlt := lt_of_some hds
        have x1 : ∀ W, Below wr.heap.size wr W → W.cell? ⟨dd, 1, none⟩ = some (.int .i64 xn) := fun W hW => (hW.cell (p := ⟨dd, 1, none⟩) hddlt).trans (by rw [cell_of_row wr dd 1 _ 29 (0, 0) hds]; rfl)
        have x2 : ∀ W, Below wr.heap.size wr W → W.cell? ⟨dd, 2, none⟩ = some (.slice xa nb xc) := fun W hW => (hW.cell (p := ⟨dd, 2, none⟩) hddlt).trans (by rw [cell_of_row wr dd 2 _ 29 (0, 0) hds]; rfl)
        have x0 : wr.cell? ⟨dd, 0, none⟩ = some (.int .i64 xdo) := by rw [cell_of_row wr dd 0 _ 29 (0, 0) hds]; rfl
        have X1 := hid x1
        have X2 := hid x2
        clear hds hddlt
        by_cases hkN : k < N
        · have gk' : (k : Int) < (N : Int) := by omega
          obtain ⟨g1, c1, hv, hglt, ec1, ec2⟩ := (HPA.out.row.below HB.out).cell (i := k) (by rw [HPN.out]; exact hkN)
          rw [HPN.out] at hv
          simp only [Value.slice.injEq, true_and] at hv
          obtain ⟨rfl, rfl⟩ := hv
          have hpm := getD_mem (ps := s.ps) (j := k) (by rw [HPN.out]; exact hkN)
          have hkpb := (HPA.out.ck.ok.pos _ hpm).2.2.2.2
          have hsT : hit (fun p => decide (p.2 = xb)) s.ps (k + 1) = if decide ((s.ps.getD k (0, [])).2 = xb) = true then (k : Int) else T := by rw [hit, HT.out]
          have hsI : hit (fun p => decide ((p.1 : Int) = xn)) s.ps (k + 1) = if decide (((s.ps.getD k (0, [])).1 : Int) = xn) = true then (k : Int) else I := by rw [hit, HI.out]
          generalize s.ps.getD k (0, []) = pk at ec1 ec2 hpm hkpb hsT hsI
          obtain ⟨pn, pb⟩ := pk
          simp only at ec1 ec2 hkpb hsT hsI
          have hss := strs_same pb xb hkpb HRA.out.1
          have hcv : ∀ W, Below wr.heap.size wr W → (convert 27 9 (.slice xa nb xc)).run Try.prog W = .ok (.string (strOf xb)) W := str_at' (HRA.out.below HB.out) HNB.out
          have hc1 : ∀ W, Below wr.heap.size wr W → W.cell? ⟨g1, k * 2, none⟩ = some (.int .i64 (pn : Int)) := fun W hW => (hW.cell (p := ⟨g1, k * 2, none⟩) hglt).trans ec1
          have hc2 : ∀ W, Below wr.heap.size wr W → W.cell? ⟨g1, k * 2 + 1, none⟩ = some (.string (strOf pb)) := fun W hW => (hW.cell (p := ⟨g1, k * 2 + 1, none⟩) hglt).trans ec2
          obtain ⟨S1, hS1⟩ : ∃ S1, strOf pb = S1 := ⟨_, rfl⟩
          obtain ⟨S2, hS2⟩ : ∃ S2, strOf xb = S2 := ⟨_, rfl⟩
          rw [hS1, hS2] at hss
          rw [hS1] at hc2
          rw [hS2] at hcv
          have HST := hid hsT
          have HSI := hid hsI
          clear hS1 hS2 hpm hkpb hsT hsI ec1 ec2 hglt x0
          have hz2 := (Below.refl wr.heap.size wr).drew
          have hz3 := hz2.drew
          have hpi : ((pn : Int) == xn) = decide ((pn : Int) = xn) := by rw [Bool.eq_iff_iff]; simp
          cases hE : decide (pb = xb) with
          | true =>
            rw [hE] at hss
            have HE := hid hE
            clear hE
            cases hF : decide ((pn : Int) = xn) with
            | true =>
             as_aux_lemma =>
              rw [hF] at hpi
              have HF := hid hF
              clear hF
              go_wp2_with fail
              go_region_held (fun W => Below wr.heap.size wr W) (first | assumption) (fail)
              go_wp2_with fail
              go_region_held (fun W => Below wr.heap.size wr W) (first | assumption) (fail)
              go_wp2_with fail
              go_roundg (gk - 1)
              case measure => omega
              case rel => exact ⟨k + 1, by omega, by go_num, by rw [HST.out, HE.out, if_pos rfl], by rw [HSI.out, HF.out, if_pos rfl], hid (HB.out.trans (hz3.mono HB.out.size))⟩
            | false =>
             as_aux_lemma =>
              rw [hF] at hpi
              have HF := hid hF
              clear hF
              go_wp2_with fail
              go_region_held (fun W => Below wr.heap.size wr W) (first | assumption) (fail)
              go_wp2_with fail
              go_region_held (fun W => Below wr.heap.size wr W) (first | assumption) (fail)
              go_wp2_with fail
              go_roundg (gk - 1)
              case measure => omega
              case rel => exact ⟨k + 1, by omega, by go_num, by rw [HST.out, HE.out, if_pos rfl], by rw [HSI.out, HF.out, if_neg (by decide)], hid (HB.out.trans (hz3.mono HB.out.size))⟩
          | false =>
            rw [hE] at hss
            have HE := hid hE
            clear hE
            cases hF : decide ((pn : Int) = xn) with
            | true =>
             as_aux_lemma =>
              rw [hF] at hpi
              have HF := hid hF
              clear hF
              go_wp2_with fail
              go_region_held (fun W => Below wr.heap.size wr W) (first | assumption) (fail)
              go_wp2_with fail
              go_region_held (fun W => Below wr.heap.size wr W) (first | assumption) (fail)
              go_wp2_with fail
              go_roundg (gk - 1)
              case measure => omega
              case rel => exact ⟨k + 1, by omega, by go_num, by rw [HST.out, HE.out, if_neg (by decide)], by rw [HSI.out, HF.out, if_pos rfl], hid (HB.out.trans (hz3.mono HB.out.size))⟩
            | false =>
             as_aux_lemma =>
              rw [hF] at hpi
              have HF := hid hF
              clear hF
              go_wp2_with fail
              go_region_held (fun W => Below wr.heap.size wr W) (first | assumption) (fail)
              go_wp2_with fail
              go_region_held (fun W => Below wr.heap.size wr W) (first | assumption) (fail)
              go_wp2_with fail
              go_roundg (gk - 1)
              case measure => omega
              case rel => exact ⟨k + 1, by omega, by go_num, by rw [HST.out, HE.out, if_neg (by decide)], by rw [HSI.out, HF.out, if_neg (by decide)], hid (HB.out.trans (hz3.mono HB.out.size))⟩
        · have gk' : ¬ (k : Int) < (N : Int) := by omega
          have hkN2 : k = N := by omega
          have HTX : Hid ((T = -1 ∧ byText s.ps xb = none) ∨ ∃ j : Nat, j < N ∧ T = (j : Int) ∧ byText s.ps xb = some (s.ps.getD j (0, [])).1) := by
            have h9 := text_hit HPA.out.ck.ok xb
            rw [HPN.out] at h9
            have e9 := HT.out
            rw [hkN2] at e9
            rw [e9] at h9
            exact h9
          have HIX : Hid ((I = -1 ∧ byId s.ps xn = none) ∨ ∃ j : Nat, j < N ∧ I = (j : Int) ∧ byId s.ps xn = some (s.ps.getD j (0, [])).2 ∧ ((s.ps.getD j (0, [])).1 : Int) = xn) := by
            have h9 := id_hit HPA.out.ck.ok xn
            rw [HPN.out] at h9
            have e9 := HI.out
            rw [hkN2] at e9
            rw [e9] at h9
            exact h9
          have HPB := hid (HPA.out.below HB.out)
          have HDB := hid ((HB.out.block dd (lt_of_some HDD.out)).trans HDD.out)
          have y1 := x1 wr (Below.refl _ _)
          have y2 := x2 wr (Below.refl _ _)
          clear HT HI hkN2 x1 x2 X1 X2 HPA HRA HDD
          obtain ⟨wB, hwB⟩ : ∃ wB, wB = wr := ⟨_, rfl⟩
          subst hwB
          go_upto_region 24 with fail
          go_cut [11] from 32 to 303 (fun v11 wx => v11 = .bool (decide (1 ≤ nb ∧ nb ≤ 64)) ∧ Hid (wx = wB))
          case first =>
           as_aux_lemma =>
            by_cases m1 : (1 : Int) ≤ (nb : Int)
            · by_cases m2 : (nb : Int) ≤ 64
              · go_wp2_with fail
                go_meet
                exact ⟨congrArg Value.bool (decide_eq_true (p := 1 ≤ nb ∧ nb ≤ 64) (by omega)).symm, hid rfl⟩
              · go_wp2_with fail
                go_meet
                exact ⟨congrArg Value.bool (decide_eq_false (p := 1 ≤ nb ∧ nb ≤ 64) (by omega)).symm, hid rfl⟩
            · go_wp2_with fail
              go_meet
              exact ⟨congrArg Value.bool (decide_eq_false (p := 1 ≤ nb ∧ nb ≤ 64) (by omega)).symm, hid rfl⟩
          case rest =>
            obtain ⟨rfl, hwc⟩ := hcut
            have hwc := hwc.out
            subst hwc
            obtain ⟨MB, hMB⟩ : ∃ MB, decide (1 ≤ nb ∧ nb ≤ 64) = MB := ⟨_, rfl⟩
            rw [hMB]
            have HMB := hid hMB
            clear hMB
            obtain ⟨wC, hwC⟩ : ∃ wC, wC = wc := ⟨_, rfl⟩
            subst hwC
            have y0 : wC.cell? ⟨dd, 0, none⟩ = some (.int .i64 xdo) := by rw [cell_of_row wC dd 0 _ 29 (0, 0) HDB.out]; rfl
            go_upto_block 4 with fail
            go_cut [4, 5, 12, 13, 14, 15, 16, 17] from 32 to 303 (fun v4 v5 v12 v13 v14 v15 v16 v17 wx => ∃ (nx' : Nat) (s' : St) (ma' : Option Addr) (mc' N' : Nat), v4 = .slice ma' N' mc' ∧ v5 = .int .i64 (nx' : Int) ∧ Hid (s'.last + 1 = nx') ∧ Hid (s'.ps.length = N') ∧ Hid (N' ≤ mc') ∧ Hid (Pl w wx q (i + 1) s' (.slice ma' N' mc')))
            case first =>
              by_cases d3 : xdo ≤ 3
              · skip
                as_aux_lemma =>
                  have hl9 := HPB.out.last
                  have kp := put_any HPB.out.ck xa xb nb xc HNB.out (HRW.out.below HPB.out.bel) (by omega) (by omega) HPB.out.sz
                  cases MB with
                  | false =>
                    have hmay := of_decide_eq_false HMB.out
                    rw [put_not (by rw [HNB.out]; exact hmay)] at kp
                    have KP := hid kp
                    clear kp hmay
                    go_wp2_with fail
                    refine KP.out.mono ?_
                    rintro e w5 ⟨rfl, h5, hc5⟩
                    have HM5 := hid (HPB.out.work hc5 h5 (by omega))
                    clear h5 hc5 KP
                    go_wp2_with fail
                    go_meet
                    exact ⟨nx, s, ma, mc, N, rfl, rfl, HNX, HPN, HMC, hid HM5.out.same⟩
                  | true =>
                    have hmay := of_decide_eq_true HMB.out
                    rcases HTX.out with ⟨hT1, hby⟩ | ⟨j, hj, hTj, hby⟩
                    · subst hT1
                      rw [put_none (by rw [HNB.out]; exact hmay) hby] at kp
                      have KP := hid kp
                      clear kp hmay hby HTX
                      rw [HNX.out] at KP
                      go_wp2_with fail
                      refine KP.out.mono ?_
                      rintro e w5 ⟨rfl, h5, hc5⟩
                      have HM5 := hid (HPB.out.work hc5 h5 (by show nx ≤ _; have := HNX.out; omega))
                      have hd5 := hc5.typ dd _ 29 _ HDB.out (by decide) (by decide)
                      have z2 : w5.cell? ⟨dd, 2, none⟩ = some (.slice xa nb xc) := by rw [cell_of_row w5 dd 2 _ 29 (0, 0) hd5]; rfl
                      have hcv := str_any w5 xa xb nb xc HNB.out (HRW.out.below HM5.out.bel)
                      obtain ⟨S2, hS2⟩ : ∃ S2, strOf xb = S2 := ⟨_, rfl⟩
                      rw [hS2] at hcv
                      have HS2 := hid hS2
                      have hal := (Below.refl w5.heap.size w5).alloc (Nat.le_refl _) (.cells #[.int .i64 (nx : Int), .string S2] 31)
                      obtain ⟨g7, c7, w7, hrun7, hP7, _⟩ := (HM5.out.below hal).add (id := nx) (l := xb) rfl 26 w5.heap.size N 1 HPN.out (by omega) (by rw [hS2]; exact heap_alloc_new w5 _)
                      have HR7 := hid hrun7
                      have HP7 := hid hP7
                      clear h5 hc5 KP hd5 hal hrun7 hP7 hS2
                      have hnx9 : nx ≤ 2000000000000 := by have := HNX.out; omega
                      have gw : IntKind.i64.wrap ((nx : Int) + 1) = (nx : Int) + 1 := by rw [IntKind.wrap_i64]; omega
                      have tok : True := trivial
                      go_wp2_with (at_builtin; have _t := tok; refine step_appl 26 rfl _ _ rfl _ _ rfl rfl _ w7 HR7.out ?_; clear tok)
                      go_meet
                      obtain ⟨hx1, hx2⟩ := HP7.out.shape
                      exact ⟨nx + 1, _, some ⟨g7, 0, none⟩, c7, N + 1, rfl, by first | rfl | (rw [gw]; rfl) | go_num, hid rfl, hid hx1, hid hx2, HP7⟩
                    · subst hTj
                      rw [put_some (by rw [HNB.out]; exact hmay) hby] at kp
                      have hjI : (j : Int) < (N : Int) := by omega
                      have hj0 : (0 : Int) ≤ (j : Int) := by omega
                      obtain ⟨pj, hpj⟩ : ∃ pj, s.ps.getD j (0, []) = pj := ⟨_, rfl⟩
                      rw [hpj] at kp
                      obtain ⟨pn, pb⟩ := pj
                      simp only at kp
                      have HPJ := hid hpj
                      have KP := hid kp
                      clear kp hmay hby HTX hpj
                      go_wp2_with fail
                      refine KP.out.mono ?_
                      rintro e w5 ⟨rfl, h5, hc5⟩
                      have HM5 := hid (HPB.out.work hc5 h5 (by omega))
                      obtain ⟨g1, c1, hv, hglt, ec1, ec2⟩ := HM5.out.row.cell (i := j) (by rw [HPN.out]; exact hj)
                      rw [HPJ.out] at ec1
                      rw [HPN.out] at hv
                      simp only [Value.slice.injEq, true_and] at hv
                      obtain ⟨rfl, rfl⟩ := hv
                      simp only at ec1
                      clear h5 hc5 KP ec2 hglt
                      go_wp2_with fail
                      go_meet
                      exact ⟨nx, s, _, mc, N, rfl, rfl, HNX, HPN, HMC, hid HM5.out.same⟩
              by_cases d5 : xdo ≤ 5
              · skip
                as_aux_lemma =>
                  have hl9 := HPB.out.last
                  have hwx : (Lit.int .i64 xn).wf = true := i64_wf HZ.out.2.1 HZ.out.2.2
                  have ks := set_any HPB.out.ck xn hwx xa xb nb xc HNB.out (HRW.out.below HPB.out.bel) (by omega) (by omega) HPB.out.sz
                  cases MB with
                  | false =>
                    have hmay := of_decide_eq_false HMB.out
                    rw [set_arg (by rw [HNB.out]; intro h9; exact hmay ⟨h9.2.2.1, h9.2.2.2⟩)] at ks
                    have KS := hid ks
                    clear ks hmay hwx
                    go_wp2_with fail
                    refine KS.out.mono ?_
                    rintro e w5 ⟨rfl, h5, hc5⟩
                    have HM5 := hid (HPB.out.work hc5 h5 (by omega))
                    clear h5 hc5 KS
                    go_wp2_with fail
                    go_meet
                    exact ⟨nx, s, ma, mc, N, rfl, rfl, HNX, HPN, HMC, hid HM5.out.same⟩
                  | true =>
                    have hmay := of_decide_eq_true HMB.out
                    by_cases hx1 : xn < 1
                    · rw [set_arg (by intro h9; omega)] at ks
                      have KS := hid ks
                      clear ks hmay hwx
                      go_wp2_with fail
                      refine KS.out.mono ?_
                      rintro e w5 ⟨rfl, h5, hc5⟩
                      have HM5 := hid (HPB.out.work hc5 h5 (by omega))
                      have hd5 := hc5.typ dd _ 29 _ HDB.out (by decide) (by decide)
                      have z1 : w5.cell? ⟨dd, 1, none⟩ = some (.int .i64 xn) := by rw [cell_of_row w5 dd 1 _ 29 (0, 0) hd5]; rfl
                      clear h5 hc5 KS hd5
                      go_wp2_with fail
                      go_meet
                      exact ⟨nx, s, ma, mc, N, rfl, rfl, HNX, HPN, HMC, hid HM5.out.same⟩
                    · obtain ⟨z, rfl⟩ : ∃ z : Nat, xn = (z : Int) := ⟨xn.toNat, by omega⟩
                      rcases HIX.out with ⟨hI1, hbi⟩ | ⟨j, hj, hIj, hbi, _⟩
                      · subst hI1
                        rcases HTX.out with ⟨hT1, hbt⟩ | ⟨j, hj, hTj, hbt⟩
                        · subst hT1
                          rw [set_ok (by rw [HNB.out]; omega) hbi hbt, Int.toNat_natCast] at ks
                          have KS := hid ks
                          have HFR := hid (And.intro hbi hbt)
                          clear ks hmay hwx HTX HIX hbi hbt
                          go_wp2_with fail
                          refine KS.out.mono ?_
                          rintro e w5 ⟨rfl, h5, hc5⟩
                          have HM5 := hid (HPB.out.work hc5 h5 (by show max s.last z ≤ _; omega))
                          have hd5 := hc5.typ dd _ 29 _ HDB.out (by decide) (by decide)
                          obtain ⟨O, hO⟩ : ∃ O, Obj.cells #[.int .i64 xdo, .int .i64 (z : Int), .slice xa nb xc] 29 (0, 0) = O := ⟨_, rfl⟩
                          have hOn : ∀ cur : Array Value, O ≠ Obj.cells cur 31 (0, 0) := by
                            intro cur e
                            rw [← hO] at e
                            injection e with _ e2
                            exact absurd e2 (by decide)
                          have z1 : ∀ W, SD w dd O W → W.cell? ⟨dd, 1, none⟩ = some (.int .i64 (z : Int)) := fun W hW => by rw [cell_of_row W dd 1 _ 29 (0, 0) (hW.1.trans (congrArg some hO.symm))]; rfl
                          have z2 : ∀ W, SD w dd O W → W.cell? ⟨dd, 2, none⟩ = some (.slice xa nb xc) := fun W hW => by rw [cell_of_row W dd 2 _ 29 (0, 0) (hW.1.trans (congrArg some hO.symm))]; rfl
                          have hS5 : SD w dd O w5 := ⟨hd5.trans (congrArg some hO), HM5.out.bel⟩
                          have zz1 := z1 w5 hS5
                          have hcv : ∀ W, SD w dd O W → (convert 27 9 (.slice xa nb xc)).run Try.prog W = .ok (.string (strOf xb)) W := fun W hW => str_any W xa xb nb xc HNB.out (HRW.out.below hW.2)
                          obtain ⟨S2, hS2⟩ : ∃ S2, strOf xb = S2 := ⟨_, rfl⟩
                          rw [hS2] at hcv
                          have hb5 := Below.refl w5.heap.size w5
                          have hb5d := hb5.drew
                          have hal := hb5.alloc (Nat.le_refl _) (.cells #[.int .i64 (z : Int), .string S2] 31)
                          have hald := hal.drew
                          have hadl := hb5d.alloc (Nat.le_refl _) (.cells #[.int .i64 (z : Int), .string S2] 31)
                          have hSu : ∀ W, Below w5.heap.size w5 W → SD w dd O W := fun W hW => ⟨(hW.block dd (lt_of_some hd5)).trans hS5.1, hS5.2.trans (hW.mono hS5.2.size)⟩
                          have hS5d := hSu _ hb5d
                          have hSal := hSu _ hal
                          have hSald := hSu _ hald
                          have hSadl := hSu _ hadl
                          obtain ⟨g7, c7, w7, hrun7, hP7, hk7⟩ := (HM5.out.below hal).add (id := z) (l := xb) rfl 26 w5.heap.size N 1 HPN.out (by omega) (by rw [hS2]; exact heap_alloc_new w5 _)
                          obtain ⟨g8, c8, w8, hrun8, hP8, hk8⟩ := (HM5.out.below hald).add (id := z) (l := xb) rfl 26 w5.heap.size N 1 HPN.out (by omega) (by rw [hS2]; exact heap_alloc_new w5 _)
                          obtain ⟨g9, c9, w9, hrun9, hP9, hk9⟩ := (HM5.out.below hadl).add (id := z) (l := xb) rfl 26 w5.heap.size N 1 HPN.out (by omega) (by rw [hS2]; exact heap_alloc_new w5.drew _)
                          have hS7 : SD w dd O w7 := ⟨hk7 dd O hSal.1 hOn, hP7.bel⟩
                          have hS8 : SD w dd O w8 := ⟨hk8 dd O hSald.1 hOn, hP8.bel⟩
                          have hS9 : SD w dd O w9 := ⟨hk9 dd O hSadl.1 hOn, hP9.bel⟩
                          have HR7 := hid hrun7
                          have HR8 := hid hrun8
                          have HR9 := hid hrun9
                          have HP7 := hid hP7
                          have HP8 := hid hP8
                          have HP9 := hid hP9
                          obtain ⟨nx2, hnx2⟩ : ∃ nx2, max nx (z + 1) = nx2 := ⟨_, rfl⟩
                          have gm1 : (if (nx : Int) < (z : Int) + 1 then (z : Int) + 1 else (nx : Int)) = (nx2 : Int) := by split <;> omega
                          have gm2 : (if (z : Int) + 1 < (nx : Int) then (nx : Int) else (z : Int) + 1) = (nx2 : Int) := by split <;> omega
                          have HX2 : Hid (max s.last z + 1 = nx2) := hid (by have := HNX.out; omega)
                          have gw : IntKind.i64.wrap ((z : Int) + 1) = (z : Int) + 1 := by rw [IntKind.wrap_i64]; omega
                          clear h5 hc5 KS hd5 hrun7 hP7 hrun8 hP8 hrun9 hP9 hS2 hnx2 hk7 hk8 hk9 hSu hOn hO hb5 hb5d hal hald hadl
                          go_wp2_with fail
                          have tok : True := trivial
                          go_region_held_law (fun W => SD w dd O W) (first | assumption) (first | (have _t := tok; refine step_app3 26 rfl _ _ rfl _ _ rfl rfl _ w7 HR7.out 192 rfl ?_; clear tok; have tok7 : True := trivial) | (have _t := tok; refine step_app3 26 rfl _ _ rfl _ _ rfl rfl _ w8 HR8.out 192 rfl ?_; clear tok; have tok8 : True := trivial) | (have _t := tok; refine step_app3 26 rfl _ _ rfl _ _ rfl rfl _ w9 HR9.out 192 rfl ?_; clear tok; have tok9 : True := trivial))
                          all_goals
                            go_wp2_with fail
                            go_meet
                            first
                              | (have _t := tok7; obtain ⟨hx1, hx2⟩ := HP7.out.shape; exact ⟨nx2, _, some ⟨g7, 0, none⟩, c7, N + 1, rfl, by first | rfl | go_num, hid HX2.out, hid hx1, hid hx2, HP7⟩)
                              | (have _t := tok8; obtain ⟨hx1, hx2⟩ := HP8.out.shape; exact ⟨nx2, _, some ⟨g8, 0, none⟩, c8, N + 1, rfl, by first | rfl | go_num, hid HX2.out, hid hx1, hid hx2, HP8⟩)
                              | (have _t := tok9; obtain ⟨hx1, hx2⟩ := HP9.out.shape; exact ⟨nx2, _, some ⟨g9, 0, none⟩, c9, N + 1, rfl, by first | rfl | go_num, hid HX2.out, hid hx1, hid hx2, HP9⟩)
                        · subst hTj
                          have hj0 : (0 : Int) ≤ (j : Int) := by omega
                          rw [set_there (by rw [HNB.out]; omega) (.inr (by rw [hbt]; simp))] at ks
                          have KS := hid ks
                          clear ks hmay hwx HTX HIX hbi hbt
                          go_wp2_with fail
                          refine KS.out.mono ?_
                          rintro e w5 ⟨rfl, h5, hc5⟩
                          have HM5 := hid (HPB.out.work hc5 h5 (by omega))
                          have hd5 := hc5.typ dd _ 29 _ HDB.out (by decide) (by decide)
                          have z1 : w5.cell? ⟨dd, 1, none⟩ = some (.int .i64 (z : Int)) := by rw [cell_of_row w5 dd 1 _ 29 (0, 0) hd5]; rfl
                          clear h5 hc5 KS hd5
                          go_wp2_with fail
                          go_meet
                          exact ⟨nx, s, ma, mc, N, rfl, rfl, HNX, HPN, HMC, hid HM5.out.same⟩
                      · subst hIj
                        have hj0 : (0 : Int) ≤ (j : Int) := by omega
                        rw [set_there (by rw [HNB.out]; omega) (.inl (by rw [hbi]; simp))] at ks
                        have KS := hid ks
                        clear ks hmay hwx HTX HIX hbi
                        go_wp2_with fail
                        refine KS.out.mono ?_
                        rintro e w5 ⟨rfl, h5, hc5⟩
                        have HM5 := hid (HPB.out.work hc5 h5 (by omega))
                        have hd5 := hc5.typ dd _ 29 _ HDB.out (by decide) (by decide)
                        have z1 : w5.cell? ⟨dd, 1, none⟩ = some (.int .i64 (z : Int)) := by rw [cell_of_row w5 dd 1 _ 29 (0, 0) hd5]; rfl
                        clear h5 hc5 KS hd5
                        go_wp2_with fail
                        go_meet
                        exact ⟨nx, s, ma, mc, N, rfl, rfl, HNX, HPN, HMC, hid HM5.out.same⟩
              cases hd6 : decide (xdo = 6) with
              | true =>
                as_aux_lemma =>
                  have hx6 := of_decide_eq_true hd6
                  subst hx6
                  have hl9 := HPB.out.last
                  have hwx : (Lit.int .i64 xn).wf = true := i64_wf HZ.out.2.1 HZ.out.2.2
                  have kd := drop_any HPB.out.ck xn hwx (by omega) (by omega) HPB.out.sz
                  rcases HIX.out with ⟨hI1, hbi⟩ | ⟨j, hj, hIj, hbi, hjx⟩
                  · subst hI1
                    rw [drop_none hbi] at kd
                    have KD := hid kd
                    clear kd hwx HTX HIX hbi hd6
                    go_wp2_with fail
                    refine KD.out.mono ?_
                    rintro e w5 ⟨rfl, h5, hc5⟩
                    have HM5 := hid (HPB.out.work hc5 (h5.mono (by omega)) (by omega))
                    clear h5 hc5 KD
                    go_wp2_with fail
                    go_meet
                    exact ⟨nx, s, ma, mc, N, rfl, rfl, HNX, HPN, HMC, hid HM5.out.same⟩
                  · subst hIj
                    have hjI : (j : Int) < (N : Int) := by omega
                    have hj0 : (0 : Int) ≤ (j : Int) := by omega
                    have hjd : decide ((0 : Int) ≤ (j : Int)) = true := decide_eq_true hj0
                    rw [drop_some (by rw [hbi]; simp)] at kd
                    have hcut := without_cut HPB.out.ck.ok (j := j) (by rw [HPN.out]; exact hj)
                    rw [hjx] at hcut
                    have HCUT := hid hcut
                    have KD := hid kd
                    clear kd hwx HTX HIX hbi hd6 hcut hjx
                    go_wp2_with fail
                    refine KD.out.mono ?_
                    rintro e w5 ⟨rfl, h5, hc5⟩
                    have HM5 := hid (HPB.out.work hc5 (h5.mono (by omega)) (by show s.last ≤ _; omega))
                    have hsl1 := fun W => slice_to26 W ma N mc j (by have := HMC.out; omega)
                    have hsl2 := fun W => slice_from26 W ma N mc (j + 1) (by omega)
                    rw [show ((j + 1 : Nat) : Int) = (j : Int) + 1 by omega] at hsl2
                    have hb5 := Below.refl w5.heap.size w5
                    have hb5d := hb5.drew
                    have hal := hb5.alloc (Nat.le_refl _) (.cells #[] 31)
                    have hald := hal.drew
                    obtain ⟨vb1, wb1, vb2, wb2, hrb1, hrb2, hPb, hBb1, hBb2⟩ := HM5.out.cut hj HPN.out (by omega) HCUT.out hald w5.heap.size (Nat.le_refl _) (heap_alloc_new w5 _) 26
                    obtain ⟨ft, hft⟩ : ∃ ft, fromB ma (j + 1) mc = ft := ⟨_, rfl⟩
                    obtain ⟨fl, hfl⟩ : ∃ fl, N - (j + 1) = fl := ⟨_, rfl⟩
                    obtain ⟨fc, hfc⟩ : ∃ fc, mc - (j + 1) = fc := ⟨_, rfl⟩
                    rw [hft, hfl, hfc] at hsl2 hrb2
                    have RB1 := hid hrb1
                    have RB2 := hid hrb2
                    have PB := hid hPb
                    have gw : IntKind.i64.wrap ((j : Int) + 1) = (j : Int) + 1 := by rw [IntKind.wrap_i64]; omega
                    clear h5 hc5 KD hrb1 hrb2 hPb hft hfl hfc
                    go_wp2_with fail
                    have tok1 : True := trivial
                    have tok2 : True := trivial
                    go_region_held_law (fun W => Below w5.heap.size w5 W) (first | assumption) (first | (have _t := tok1; refine step_app3 26 rfl _ _ rfl _ _ rfl rfl _ wb1 RB1.out 234 rfl ?_; clear tok1) | (have _t := tok2; refine step_app3 26 rfl _ _ rfl _ _ rfl rfl _ wb2 RB2.out 239 rfl ?_; clear tok2))
                    all_goals
                      go_wp2_with fail
                      go_meet
                      obtain ⟨a9, c9, e9, hc9⟩ := PB.out.row.shape
                      exact ⟨nx, ⟨without s.ps xn, s.last⟩, a9, c9, _, e9, rfl, HNX, hid rfl, hid hc9, hid (e9 ▸ PB.out)⟩
              | false =>
                as_aux_lemma =>
                  have hx6 : (xdo == 6) = false := by
                    have h9 := of_decide_eq_false hd6
                    simpa using h9
                  have hwx : (Lit.int .i64 xn).wf = true := i64_wf HZ.out.2.1 HZ.out.2.2
                  have kg := get_any HPB.out.ck xn hwx
                  rcases HIX.out with ⟨hI1, hbi⟩ | ⟨j, hj, hIj, hbi, _⟩
                  · subst hI1
                    rw [hbi] at kg
                    have KG := hid kg
                    clear kg hwx HTX HIX hbi hd6
                    go_wp2_with fail
                    refine KG.out.mono ?_
                    rintro e w5 ⟨v5, rfl, hgot, hb5⟩
                    obtain rfl : v5 = .slice none 0 0 := hgot
                    simp only [Option.isSome_none]
                    have HP5 := hid (HPB.out.below hb5)
                    have hqq : ∀ nq, Below w5.heap.size w5 (w5.drewN nq) := fun nq => ⟨rfl, rfl, rfl, Nat.le_refl _, fun _ _ => rfl⟩
                    have HQQ := hid hqq
                    clear hb5 KG hqq
                    go_wp2_with fail
                    go_quiet (fail)
                    have hbq := HQQ.out nq
                    go_wp2_with fail
                    go_meet
                    exact ⟨nx, s, ma, mc, N, rfl, rfl, HNX, HPN, HMC, hid (HP5.out.below hbq).more⟩
                  · subst hIj
                    have hjI : (j : Int) < (N : Int) := by omega
                    have hj0 : (0 : Int) ≤ (j : Int) := by omega
                    have hjd : decide ((0 : Int) ≤ (j : Int)) = true := decide_eq_true hj0
                    rw [hbi] at kg
                    have hlt256 : ∀ y ∈ (s.ps.getD j (0, [])).2, y < 256 := (HPB.out.ck.ok.pos _ (getD_mem (by rw [HPN.out]; exact hj))).2.2.2.2
                    obtain ⟨pj, hpj⟩ : ∃ pj, s.ps.getD j (0, []) = pj := ⟨_, rfl⟩
                    rw [hpj] at kg hlt256
                    obtain ⟨pn, pb⟩ := pj
                    simp only at kg hlt256
                    have HPJ := hid hpj
                    have KG := hid kg
                    clear kg hwx HTX HIX hbi hd6 hpj
                    go_wp2_with fail
                    refine KG.out.mono ?_
                    rintro e w5 ⟨v5, rfl, hgot, hb5⟩
                    obtain ⟨g5, c5, rfl, ho5⟩ := hgot
                    simp only [Option.isSome_some]
                    have HP5 := hid (HPB.out.below hb5)
                    have hr5 := (row_of_owns' rfl ho5 hlt256).2
                    have hca : ∀ k, (convert 27 9 (.slice (some ⟨g5, 0, none⟩) pb.length c5)).run Try.prog (w5.drewN k) = .ok (.string (strOf pb)) (w5.drewN k) := fun k => str_any _ _ pb _ c5 rfl ⟨hr5.1, hr5.2⟩
                    obtain ⟨g1, c1, hv, hglt, ec1, ec2⟩ := HP5.out.row.cell (i := j) (by rw [HPN.out]; exact hj)
                    rw [HPJ.out] at ec2
                    rw [HPN.out] at hv
                    simp only [Value.slice.injEq, true_and] at hv
                    obtain ⟨rfl, rfl⟩ := hv
                    simp only at ec2
                    have hqq : ∀ nq, Below w5.heap.size w5 (w5.drewN nq) := fun nq => ⟨rfl, rfl, rfl, Nat.le_refl _, fun _ _ => rfl⟩
                    have HQQ := hid hqq
                    obtain ⟨S, hS⟩ : ∃ S, strOf pb = S := ⟨_, rfl⟩
                    obtain ⟨m, hm⟩ : ∃ m, pb.length = m := ⟨_, rfl⟩
                    rw [hS, hm] at hca
                    rw [hS] at ec2
                    rw [hm]
                    have hss : (S.toList == S.toList) = true := by simp
                    clear hb5 KG ho5 hr5 ec1 hglt hS hm hlt256 hqq
                    go_wp2_with fail
                    go_quiet (fail)
                    have hbq := HQQ.out nq
                    go_wp2_with fail
                    go_meet
                    exact ⟨nx, s, _, mc, N, rfl, rfl, HNX, HPN, HMC, hid (HP5.out.below hbq).more⟩
            case rest =>
              obtain ⟨nx', s', ma', mc', N', rfl, rfl, HNX', HPN', HMC', HP'⟩ := hcut
              as_aux_lemma =>
                obtain ⟨wD, hwD⟩ : ∃ wD, wD = wc := ⟨_, rfl⟩
                subst hwD
                have hN402 : N' ≤ 402 := by
                  have h9 := HP'.out.ck.few
                  rw [HPN'.out] at h9
                  omega
                clear HTX HIX HPB HDB HPN HNX HMC y0 y1 y2
                go_wp2_with fail
                refine (ids_any HP'.out.ck (by omega)).mono ?_
                rintro e w5 ⟨v5, rfl, hv5, hb5⟩
                have hidl : (idsOf s'.ps).length = N' := by rw [idsOf_len]; exact HPN'.out
                have HIDL := hid hidl
                rw [hidl] at hv5
                obtain ⟨a5, c5, rfl, _⟩ := owns_shape hv5
                have HV5 := hid hv5
                have HP5 := hid (HP'.out.below hb5)
                clear hv5 hb5 hidl
                go_wp2_with fail
                go_loopg [19, 20] N' (fun gk v19 v20 wr => ∃ k Z : Nat, k + gk = N' ∧ v20 = .int .i64 (k : Int) ∧ v19 = .int .i64 (Z : Int) ∧ Hid (Z = bytes (s'.ps.take k)) ∧ Hid (Below w5.heap.size w5 wr))
                case atStart => exact ⟨0, 0, by omega, rfl, rfl, hid rfl, hid (Below.refl _ _)⟩
                case round =>
                  obtain ⟨k, Z, hk, rfl, rfl, HZZ, HB⟩ := hrel
                  by_cases hkN' : k < N'
                  · have gk' : (k : Int) < (N' : Int) := by omega
                    obtain ⟨g1, c1, hv, hglt, ec1, ec2⟩ := (HP5.out.row.below HB.out).cell (i := k) (by rw [HPN'.out]; exact hkN')
                    rw [HPN'.out] at hv
                    simp only [Value.slice.injEq, true_and] at hv
                    obtain ⟨rfl, rfl⟩ := hv
                    have hbt := bytes_take s'.ps k (by rw [HPN'.out]; exact hkN')
                    have h64 := (HP5.out.ck.ok.pos _ (getD_mem (ps := s'.ps) (j := k) (by rw [HPN'.out]; exact hkN'))).2.2.2.1
                    have hZ64 : Z ≤ 64 * N' := by
                      have h9 := bytes_le HP5.out.ck.ok
                      have h8 : bytes (s'.ps.take k) ≤ bytes s'.ps := by
                        have e9 : bytes (s'.ps.take k) + bytes (s'.ps.drop k) = bytes s'.ps := by rw [← bytes_app, List.take_append_drop]
                        omega
                      rw [HPN'.out] at h9
                      rw [HZZ.out]
                      omega
                    have hsz := strOf_size (s'.ps.getD k (0, [])).2
                    obtain ⟨m, hm⟩ : ∃ m, (s'.ps.getD k (0, [])).2.length = m := ⟨_, rfl⟩
                    rw [hm] at hsz hbt h64
                    obtain ⟨S, hS⟩ : ∃ S, strOf (s'.ps.getD k (0, [])).2 = S := ⟨_, rfl⟩
                    rw [hS] at hsz ec2
                    rw [← HZZ.out] at hbt
                    have HBT := hid hbt
                    clear hbt hm hS ec1 hglt
                    go_wp2_with fail
                    go_roundg (gk - 1)
                    case measure => omega
                    case rel => exact ⟨k + 1, Z + m, by omega, by go_num, by go_num, hid HBT.out.symm, HB⟩
                  · have gk' : ¬ (k : Int) < (N' : Int) := by omega
                    have hkN2 : k = N' := by omega
                    have hZb : bytes s'.ps = Z := by
                      rw [HZZ.out, List.take_of_length_le (by rw [HPN'.out]; omega)]
                    have HZb := hid hZb
                    have HP6 := hid (HP5.out.below HB.out)
                    have HV6 := hid (owns_keep HV5.out fun g cur _ _ hk => (HB.out.block g (lt_of_some hk)).trans hk)
                    have hl9 := HP6.out.last
                    obtain ⟨w6, hw6⟩ : ∃ w6, w6 = wr := ⟨_, rfl⟩
                    subst hw6
                    clear hZb HZZ HB HP5 HV5
                    go_wp2_with fail
                    refine (size_any HP6.out.ck (by omega)).mono ?_
                    rintro e w7 ⟨rfl, hb7⟩
                    rw [HZb.out]
                    have HP7 := hid (HP6.out.below hb7)
                    have HV7 := hid (owns_keep HV6.out fun g cur _ _ hk => (hb7.block g (lt_of_some hk)).trans hk)
                    clear hb7
                    go_wp2_with fail
                    refine (next_any HP7.out.ck (by omega)).mono ?_
                    rintro e w8 ⟨rfl, rfl⟩
                    rw [HNX'.out]
                    go_wp2_with fail
                    go_loopg [21] N' (fun gk v21 wr => ∃ u : Nat, u + gk = N' ∧ v21 = .int .i64 (u : Int) ∧ Hid (Below w8.heap.size w8 wr))
                    case atStart => exact ⟨0, by omega, rfl, hid (Below.refl _ _)⟩
                    case round =>
                      obtain ⟨u, hu, rfl, HBL⟩ := hrel
                      by_cases hlt4 : u < N'
                      · have g5 : (u : Int) < (N' : Int) := by omega
                        obtain ⟨g5', cap5, hve5, hcell5, hg5lt⟩ := owns_cell HIDL.out HV7.out hlt4
                        simp only [Value.slice.injEq, true_and] at hve5
                        obtain ⟨rfl, rfl⟩ := hve5
                        have hxm : (idsOf s'.ps).getD u 0 ∈ idsOf s'.ps := by
                          rw [List.getD_eq_getElem?_getD, List.getElem?_eq_getElem (by rw [HIDL.out]; exact hlt4)]
                          exact List.getElem_mem _
                        have hsome : (byId s'.ps ((idsOf s'.ps).getD u 0)).isSome = true := by
                          have h9 := idsOf_mem.1 hxm
                          cases h8 : byId s'.ps ((idsOf s'.ps).getD u 0) with
                          | none => exact absurd h8 h9
                          | some b => rfl
                        have hwfx : (Lit.int .i64 ((idsOf s'.ps).getD u 0)).wf = true := by
                          cases h8 : byId s'.ps ((idsOf s'.ps).getD u 0) with
                          | none => exact absurd h8 (idsOf_mem.1 hxm)
                          | some b =>
                            obtain ⟨id, e9, hmem⟩ := byId_some h8
                            have := (HP7.out.ck.ok.pos _ hmem).2.1
                            rw [e9]
                            exact i64_wf (by omega) (by show (id : Int) < _; have : id ≤ s'.last := this; omega)
                        have hz0 := Below.refl wr.heap.size wr
                        have hz1 := hz0.drew
                        have hrest : ∀ W, Below wr.heap.size wr W → W.cell? ⟨g5', u, none⟩ = some (.int .i64 ((idsOf s'.ps).getD u 0)) := fun W hW => (hW.cell (p := ⟨g5', u, none⟩) (Nat.lt_of_lt_of_le hg5lt HBL.out.size)).trans ((HBL.out.cell (p := ⟨g5', u, none⟩) hg5lt).trans hcell5)
                        have hqq : ∀ nq, Below wr.heap.size wr (wr.drewN nq) := fun nq => ⟨rfl, rfl, rfl, Nat.le_refl _, fun _ _ => rfl⟩
                        have HQQ := hid hqq
                        clear hqq
                        by_cases hu0 : u = 0
                        · have gpos : decide ((0 : Int) < (u : Int)) = false := decide_eq_false (by omega)
                          have gposn : decide (0 < u) = false := decide_eq_false (by omega)
                          obtain ⟨x, hx⟩ : ∃ x, (idsOf s'.ps).getD u 0 = x := ⟨_, rfl⟩
                          rw [hx] at hrest hsome hwfx
                          have hrd := hrest _ hz0
                          have HRD : Hid (∀ nq, (wr.drewN nq).cell? ⟨g5', u, none⟩ = some (.int .i64 x)) := hid fun nq => hrest _ (HQQ.out nq)
                          have HS := hid hsome
                          clear hcell5 hxm hx hg5lt hsome hrest hz1 hu0
                          go_wp2_with fail
                          go_quiet (fail)
                          have hrd2 := HRD.out nq
                          have hbq := HQQ.out nq
                          clear hrd
                          try clear gpos
                          try clear gposn
                          go_wp2_with fail
                          refine (get_any (HP7.out.ck.below (HBL.out.trans (hbq.mono HBL.out.size))) x hwfx).mono ?_
                          rintro e w9 ⟨v9, rfl, _, hb9⟩
                          rw [HS.out]
                          have HB9 := hid ((HBL.out.trans (hbq.mono HBL.out.size)).trans (hb9.mono (HBL.out.trans (hbq.mono HBL.out.size)).size))
                          clear hb9
                          go_wp2_with fail
                          go_roundg (gk - 1)
                          case measure => omega
                          case rel => exact ⟨u + 1, by omega, by go_num, HB9⟩
                        · obtain ⟨u', hu'⟩ : ∃ u', u = u' + 1 := ⟨u - 1, by omega⟩
                          obtain ⟨g6', cap6, hve6, hcell6, hg6lt⟩ := owns_cell HIDL.out HV7.out (i := u') (by omega)
                          simp only [Value.slice.injEq, Option.some.injEq, Addr.mk.injEq, true_and, and_true] at hve6
                          obtain ⟨rfl, rfl⟩ := hve6
                          have hrise := ids_less HP7.out.ck.ok (k := u) (by omega) (by rw [HPN'.out]; exact hlt4)
                          rw [show u - 1 = u' by omega] at hrise
                          have hrd2 : wr.cell? ⟨g5', u', none⟩ = some (.int .i64 ((idsOf s'.ps).getD u' 0)) := (HBL.out.cell (p := ⟨g5', u', none⟩) hg6lt).trans hcell6
                          obtain ⟨x, hx⟩ : ∃ x, (idsOf s'.ps).getD u 0 = x := ⟨_, rfl⟩
                          obtain ⟨y, hy⟩ : ∃ y, (idsOf s'.ps).getD u' 0 = y := ⟨_, rfl⟩
                          rw [hx] at hrest hsome hwfx hrise
                          rw [hy] at hrd2 hrise
                          have gle : decide (x ≤ y) = false := decide_eq_false (by omega)
                          have gpos : decide ((0 : Int) < (u : Int)) = true := decide_eq_true (by omega)
                          have gposn : decide (0 < u) = true := decide_eq_true (by omega)
                          have hrd := hrest _ hz0
                          have HRD : Hid (∀ nq, (wr.drewN nq).cell? ⟨g5', u, none⟩ = some (.int .i64 x)) := hid fun nq => hrest _ (HQQ.out nq)
                          have HS := hid hsome
                          have huw : IntKind.i64.wrap ((u : Int) - 1) = (u' : Int) := by rw [IntKind.wrap_i64]; omega
                          have hu'N : (u' : Int) < (N' : Int) := by omega
                          have hu'0 : (0 : Int) ≤ (u' : Int) := by omega
                          clear hcell5 hcell6 hxm hx hy hg5lt hg6lt hsome hu0 hrise hrest hz1 hu'
                          go_wp2_with fail
                          go_quiet (fail)
                          have hrd3 := HRD.out nq
                          have hbq := HQQ.out nq
                          clear hrd hrd2
                          try clear gpos
                          try clear gposn
                          try clear gle
                          try clear huw
                          go_wp2_with fail
                          refine (get_any (HP7.out.ck.below (HBL.out.trans (hbq.mono HBL.out.size))) x hwfx).mono ?_
                          rintro e w9 ⟨v9, rfl, _, hb9⟩
                          rw [HS.out]
                          have HB9 := hid ((HBL.out.trans (hbq.mono HBL.out.size)).trans (hb9.mono (HBL.out.trans (hbq.mono HBL.out.size)).size))
                          clear hb9
                          go_wp2_with fail
                          go_roundg (gk - 1)
                          case measure => omega
                          case rel => exact ⟨u + 1, by omega, by go_num, HB9⟩
                      · have g5 : ¬ (u : Int) < (N' : Int) := by omega
                        have HP9 := hid (HP7.out.below HBL.out)
                        have hi1 : i + 1 + (G - 1) = n := by omega
                        go_wp2_with fail
                        go_roundg (G - 1)
                        case measure => omega
                        case rel => exact ⟨i + 1, nx', s', ma', mc', N', hi1, by go_num, rfl, rfl, HNX', HPN', HMC', HP9⟩
    · have g : ¬ (i : Int) < (n : Int) := by omega
      have HBE := hid HP.out.bel
      go_wp2_with fail
      go_ret
      exact ⟨rfl, HBE.out⟩
end Go.Proofs.Ytenjhmlgimnnoaa
