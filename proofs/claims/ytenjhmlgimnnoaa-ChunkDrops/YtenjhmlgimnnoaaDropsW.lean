/- ChunkDrops, as it is walked: what is dropped is not there; put again it has another number; all else is as it was. No condition. -/
import Derived.Test.YtenjhmlgimnnoaaPuts
namespace Go.Proofs.Ytenjhmlgimnnoaa
open Go.ChangeShapes Go.WideShapes Go.ChangeAt Go.RowKit
set_option maxRecDepth 4000
set_option linter.unusedVariables false
attribute [local go_sem ↓] Go.wp_at_zero Go.wp_at_succ
set_option maxHeartbeats 400000 in
theorem drops_walk {w : World} (a : Option Addr) (ls : List (List Nat)) (n cap : Nat) (hn : ls.length = n) (hg : Grid w a ls) (D : Nat) (hD : D < 256) :
    Calls Try.prog 7 #[.slice a n cap, .int .u8 (D : Int)] w fun e w' => e = .returned (.bool true) ∧ Below w.heap.size w w' := by
  by_cases h0 : n = 0
  · have g0 : ((n : Int) == 0) = true := by simp [h0]
    clear hn hg h0
    go_enter Try.func7, Try.ntmps7
    go_wp2_with fail
    refine (awake_any w).mono ?_
    rintro e w1 ⟨rfl, hb1⟩
    have HB1 := hid hb1
    clear hb1
    go_wp2_with fail
    go_ret
    exact ⟨rfl, HB1.out⟩
  have g0 : ((n : Int) == 0) = false := by simp; omega
  by_cases h6 : 60 < n
  · have g6 : (60 : Int) < (n : Int) := by omega
    clear hn hg
    go_enter Try.func7, Try.ntmps7
    go_wp2_with fail
    refine (awake_any w).mono ?_
    rintro e w1 ⟨rfl, hb1⟩
    have HB1 := hid hb1
    clear hb1
    go_wp2_with fail
    go_ret
    exact ⟨rfl, HB1.out⟩
  have g6 : ¬ (60 : Int) < (n : Int) := by omega
  have HN := hid hn
  have HG := hid hg
  clear hn hg
  go_enter Try.func7, Try.ntmps7
  go_wp2_with fail
  refine (awake_any w).mono ?_
  rintro e w1 ⟨rfl, hb1⟩
  have HB1 := hid hb1
  clear hb1
  go_wp2_with fail
  refine (new_any (w := w1)).mono ?_
  rintro e w2 ⟨rfl, rfl⟩
  have hck0 := CkAt.new (w1.heap.size + 1) w1
  have HB2 := hid (HB1.out.trans ((Below.refl w.heap.size w1).alloc HB1.out.size (.cells #[.map none, .map none, .int .i64 0] 55)))
  have hs2 : (w1.alloc (.cells #[.map none, .map none, .int .i64 0] 55)).heap.size = w1.heap.size + 1 := by simp
  have hq : w.heap.size ≤ w1.heap.size := HB1.out.size
  generalize w1.alloc (.cells #[.map none, .map none, .int .i64 0] 55) = w2 at *
  obtain ⟨q, hqe⟩ : ∃ q, w1.heap.size = q := ⟨_, rfl⟩
  rw [hqe] at hck0 hs2 hq ⊢
  have HCK0 := hid hck0
  have HS2 := hid hs2
  clear hck0 hs2 hqe
  go_wp2_with fail
  go_loopg [6] n (fun gk v6 wr => ∃ i : Nat, i + gk = n ∧ v6 = .int .i64 (i : Int) ∧ Hid (CkAt (q + 1) wr q (2 * i) (puts ⟨[], 0⟩ (ls.take i))) ∧ Hid (Chg q (q + 1) w2 wr))
  case atStart => exact ⟨0, by omega, rfl, HCK0, hid (Chg.refl _ _ _)⟩
  case round =>
    obtain ⟨i, hi, rfl, HC, HX⟩ := hrel
    have hbr : Below w.heap.size w wr := HB2.out.trans (HX.out.below (by omega) (by omega) HB2.out.size)
    have HBR := hid hbr
    have hbase : q + 1 ≤ wr.heap.size := by have := HX.out.size; have := HS2.out; omega
    by_cases hlt' : i < n
    · have g1 : (i : Int) < (n : Int) := by omega
      obtain ⟨b, off, rfl, ai, ci, hc1, hrw⟩ := (HG.out.below hbr).get (i := i) (by rw [HN.out]; exact hlt')
      have hl60 : (puts ⟨[], 0⟩ (ls.take i)).last ≤ 60 := by have := puts_last ⟨[], 0⟩ (ls.take i); simp only [List.length_take] at this; omega
      have hts := take_snoc ls i [] (by rw [HN.out]; exact hlt')
      have HTS := hid hts
      obtain ⟨l, hl⟩ : ∃ l, ls.getD i [] = l := ⟨_, rfl⟩
      have HL := hid hl
      rw [hl] at hc1 hrw
      obtain ⟨m, hm⟩ : ∃ m, l.length = m := ⟨_, rfl⟩
      rw [hm] at hc1
      have kp := put_any HC.out ai l m ci hm hrw (by omega) (by omega) hbase
      have KP := hid kp
      clear kp hrw hts hl hbr hm
      go_wp2_with fail
      refine KP.out.mono ?_
      rintro e w5 ⟨rfl, h5, hc5⟩
      have H5 := hid h5
      have HC5 := hid (HX.out.trans hc5)
      clear h5 hc5 KP hc1
      go_wp2_with fail
      go_roundg (gk - 1)
      case measure => omega
      case rel => exact ⟨i + 1, by omega, by go_num, by rw [HTS.out, HL.out, puts_snoc]; exact hid (H5.out.mono (by omega)), HC5⟩
    · have g1 : ¬ (i : Int) < (n : Int) := by omega
      have hl60 : (puts ⟨[], 0⟩ (ls.take i)).last ≤ 60 := by have := puts_last ⟨[], 0⟩ (ls.take i); simp only [List.length_take] at this; omega
      generalize puts ⟨[], 0⟩ (ls.take i) = s at *
      go_wp2_with fail
      refine (ids_any HC.out (by omega)).mono ?_
      rintro e w5 ⟨v, rfl, hv, hb5⟩
      have H5 := hid (HC.out.below hb5)
      have HB5 := hid (hbr.trans (hb5.mono hbr.size))
      have hlen := idsOf_len s.ps
      have HLEN := hid hlen
      obtain ⟨a5, cap5, rfl, _⟩ := owns_shape hv
      have HV := hid hv
      have hbase5 : q + 1 ≤ w5.heap.size := Nat.le_trans hbase hb5.size
      have HX5 := hid (HX.out.trans (Chg.of_below hb5))
      clear hb5 hv hlen
      obtain ⟨k, hk⟩ : ∃ k, (idsOf s.ps).length = k := ⟨_, rfl⟩
      have HK := hid hk
      rw [hk] at HV ⊢
      clear hk
      by_cases hk0 : k = 0
      · have g2 : ((k : Int) == 0) = true := by simp [hk0]
        clear hk0
        go_wp2_with fail
        go_ret
        exact ⟨rfl, HB5.out⟩
      have g2 : ((k : Int) == 0) = false := by simp; omega
      obtain ⟨j, hj⟩ : ∃ j, D % k = j := ⟨_, rfl⟩
      have hjk : j < k := by rw [← hj]; exact Nat.mod_lt _ (by omega)
      have gr : (D : Int) % (k : Int) = (j : Int) := by rw [← hj]; rfl
      have gr2 : Int.tmod (D : Int) (k : Int) = (j : Int) := by rw [Int.tmod_eq_emod_of_nonneg (by omega), gr]
      obtain ⟨g5, cap5', hve, hcell5, hglt⟩ := owns_cell HK.out HV.out hjk
      simp only [Value.slice.injEq, true_and] at hve
      obtain ⟨rfl, rfl⟩ := hve
      have hxm : (idsOf s.ps).getD j 0 ∈ idsOf s.ps := by
        rw [List.getD_eq_getElem?_getD, List.getElem?_eq_getElem (by rw [HK.out]; exact hjk)]
        exact List.getElem_mem _
      cases hby : byId s.ps ((idsOf s.ps).getD j 0) with
      | none => exact absurd hby (idsOf_mem.1 hxm)
      | some b =>
        obtain ⟨id, hide, hmem⟩ := byId_some hby
        rw [hide] at hcell5 hby
        have hpos := H5.out.ok.pos _ hmem
        have hbl : b.length ≤ 64 := hpos.2.2.2.1
        have hbl1 : 1 ≤ b.length := hpos.2.2.1
        have hid60 : id ≤ 60 := Nat.le_trans hpos.2.1 hl60
        have hwf : (Lit.int .i64 (id : Int)).wf = true := i64_wf (by omega) (by omega)
        have HOK := hid H5.out.ok
        have HMEM := hid hmem
        have HBY := hid hby
        have hby2 : byId (without s.ps (id : Int)) (id : Int) = none := by rw [byId_less, if_pos rfl]
        have HBY2 := hid hby2
        clear hj hxm hide hpos hmem hby hby2 HV
        go_wp2_with fail
        refine (get_any H5.out (id : Int) hwf).mono ?_
        rintro e w6 ⟨v6, rfl, hgot, hb6⟩
        rw [HBY.out] at hgot ⊢
        obtain ⟨g6, c6, rfl, ho6⟩ := hgot
        have H6 := hid (H5.out.below hb6)
        have HB6 := hid (HB5.out.trans (hb6.mono HB5.out.size))
        have HR6 := hid (brow_of_owns rfl ho6 (HOK.out.pos _ HMEM.out).2.2.2.2)
        have HX6 := hid (HX5.out.trans (Chg.of_below hb6))
        have hbase6 : q + 1 ≤ w6.heap.size := Nat.le_trans hbase5 hb6.size
        obtain ⟨bl, hble⟩ : ∃ bl, b.length = bl := ⟨_, rfl⟩
        have HBL := hid hble
        rw [hble] at hbl hbl1 ⊢
        simp only [Option.isSome_some]
        clear hb6 ho6 hble hcell5 hglt
        go_wp2_with fail
        refine (size_any H6.out (by omega)).mono ?_
        rintro e w7 ⟨rfl, hb7⟩
        have H7 := hid (H6.out.below hb7)
        have HB7 := hid (HB6.out.trans (hb7.mono HB6.out.size))
        have HR7 := hid (HR6.out.below hb7)
        have hbase7 : q + 1 ≤ w7.heap.size := Nat.le_trans hbase6 hb7.size
        have HX7 := hid (HX6.out.trans (Chg.of_below hb7))
        clear hb7
        have hby64 := bytes_le HOK.out
        have hfew := H7.out.few
        have hsub := bytes_less HOK.out HMEM.out
        rw [HBL.out] at hsub
        obtain ⟨Z, hZ⟩ : ∃ Z, bytes s.ps = Z := ⟨_, rfl⟩
        have HZ := hid hZ
        rw [hZ] at hsub hby64 ⊢
        clear hZ
        go_wp2_with fail
        refine (next_any H7.out (by omega)).mono ?_
        rintro e w8 ⟨rfl, rfl⟩
        obtain ⟨nx', hnx⟩ : ∃ nx', s.last + 1 = nx' := ⟨_, rfl⟩
        have HNX := hid hnx
        rw [hnx]
        clear hnx
        have k9 := drop_any H7.out (id : Int) hwf (by omega) (by omega) hbase7
        rw [drop_some (by rw [HBY.out]; simp)] at k9
        have K9 := hid k9
        clear k9
        go_wp2_with fail
        refine K9.out.mono ?_
        rintro e w9 ⟨rfl, h9, hc9⟩
        have H9 := hid h9
        have hbase9 : q + 1 ≤ w9.heap.size := Nat.le_trans hbase7 hc9.size
        have HX9 := hid (HX7.out.trans hc9)
        have HR9 := hid (HR7.out.chg hc9)
        clear h9 hc9 K9
        have k10 := drop_any H9.out (id : Int) hwf (by omega) (by show s.last < _; omega) hbase9
        rw [drop_none HBY2.out] at k10
        have K10 := hid k10
        clear k10
        go_wp2_with fail
        refine K10.out.mono ?_
        rintro e w10 ⟨rfl, h10, hc10⟩
        have H10 := hid h10
        have hbase10 : q + 1 ≤ w10.heap.size := Nat.le_trans hbase9 hc10.size
        have HX10 := hid (HX9.out.trans hc10)
        have HR10 := hid (HR9.out.chg hc10)
        clear h10 hc10 K10
        go_wp2_with fail
        refine (size_any H10.out (by omega)).mono ?_
        rintro e w11 ⟨rfl, hb11⟩
        have H11 := hid (H10.out.below hb11)
        have hbase11 : q + 1 ≤ w11.heap.size := Nat.le_trans hbase10 hb11.size
        have HX11 := hid (HX10.out.trans (Chg.of_below hb11))
        have HR11 := hid (HR10.out.below hb11)
        clear hb11
        obtain ⟨Z2, hZ2⟩ : ∃ Z2, bytes (without s.ps (id : Int)) = Z2 := ⟨_, rfl⟩
        have HZ2 := hid hZ2
        simp only [hZ2] at hsub ⊢
        have gz : (Z : Int) - (bl : Int) = (Z2 : Int) := by omega
        clear hZ2
        go_wp2_with fail
        refine (next_any H11.out (by show s.last < _; omega)).mono ?_
        rintro e w12 ⟨rfl, rfl⟩
        simp only [HNX.out]
        go_wp2_with fail
        refine (get_any H11.out (id : Int) hwf).mono ?_
        rintro e w13 ⟨v13, rfl, hgot13, hb13⟩
        simp only [HBY2.out] at hgot13 ⊢
        obtain rfl : v13 = .slice none 0 0 := hgot13
        have H13 := hid (H11.out.below hb13)
        have hbase13 : q + 1 ≤ w13.heap.size := Nat.le_trans hbase11 hb13.size
        have HX13 := hid (HX11.out.trans (Chg.of_below hb13))
        have HR13 := hid (HR11.out.below hb13)
        simp only [Option.isSome_none]
        clear hb13
        have k14 := put_any H13.out (some ⟨g6, 0, none⟩) b bl c6 HBL.out HR13.out.1 (by omega) (by show s.last < _; omega) hbase13
        rw [put_none (s := ⟨without s.ps (id : Int), s.last⟩) (by rw [HBL.out]; omega) (byText_less HOK.out HMEM.out)] at k14
        simp only [HNX.out] at k14
        have K14 := hid k14
        clear k14
        go_wp2_with fail
        refine K14.out.mono ?_
        rintro e w14 ⟨rfl, h14, hc14⟩
        have H14 := hid h14
        have HX14 := hid (HX13.out.trans hc14)
        clear h14 hc14 K14
        go_wp2_with fail
        refine (ids_any H14.out (by omega)).mono ?_
        rintro e w15 ⟨v15, rfl, hv15, hb15⟩
        obtain ⟨a15, cap15, rfl, _⟩ := owns_shape hv15
        have hl15 : (idsOf (without s.ps (id : Int) ++ [(nx', b)])).length = k := by
          have := without_len HOK.out HMEM.out
          rw [idsOf_len, List.length_append, ← HK.out, idsOf_len]
          simp only [List.length_cons, List.length_nil]
          omega
        simp only [hl15]
        have H15 := hid (H14.out.below hb15)
        have HX15 := hid (HX14.out.trans (Chg.of_below hb15))
        clear hv15 hb15 hl15
        go_wp2_with fail
        refine (size_any H15.out (by omega)).mono ?_
        rintro e w16 ⟨rfl, hb16⟩
        have hz16 : bytes (without s.ps (id : Int) ++ [(nx', b)]) = Z := by
          rw [bytes_add, HZ2.out, HBL.out]
          omega
        simp only [hz16]
        have HX16 := hid (HX15.out.trans (Chg.of_below hb16))
        clear hb16 hz16
        go_wp2_with fail
        go_ret
        exact ⟨rfl, HB2.out.trans (HX16.out.below (by omega) (by omega) HB2.out.size)⟩
end Go.Proofs.Ytenjhmlgimnnoaa
