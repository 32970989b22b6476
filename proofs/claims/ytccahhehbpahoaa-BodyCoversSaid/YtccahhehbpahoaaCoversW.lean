/- BodyCovers, as it is walked: written over, nothing of what lay there is left; cut and made longer, nothing comes back. No condition. -/
import Derived.Test.YtccahhehbpahoaaLaw
namespace Go.Proofs.Ytccahhehbpahoaa
open Go.ChangeShapes Go.WideShapes Go.ChangeAt Go.RowKit
set_option maxRecDepth 4000
set_option linter.unusedVariables false
attribute [local go_sem ↓] Go.wp_at_zero Go.wp_at_succ
/-- Of what was written, nothing else lies in the range. -/
theorem covers_mem {size off k : Int} {b : List Pt} (hb : mayB size b = true) (h0 : 0 ≤ off) (hk : 1 ≤ k) : ∀ p ∈ ahead off b ++ (lay off [⟨0, k, 77777, 0⟩] ++ behind (off + k) b), p.ch = 77777 ∨ p.off + p.len ≤ off ∨ off + k ≤ p.off := by
  obtain ⟨a1, a2, a3⟩ := mayB_iff.1 hb
  intro p hp
  rcases List.mem_append.1 hp with hp | hp
  · exact .inr (.inl (ahead_end a3 p hp).2)
  · rcases List.mem_append.1 hp with hp | hp
    · simp [lay] at hp
      subst hp
      exact .inl rfl
    · have h := behind_ok (off := off + k) a3 (Int.le_refl _)
      obtain ⟨h2, h3, h4⟩ := okB_mem h hp
      exact .inr (.inr (by omega))
set_option maxHeartbeats 2000000 in
theorem bodyCovers_walk {w : World} (size : Int) (a : Option Addr) (b : List Pt) (n c : Nat) (hn : b.length = n) (hr : PRow w a b) (hz : a = none → c = 0) (o s u : Int) (ho0 : 0 ≤ o) (ho1 : o < 65536) (hs0 : 0 ≤ s) (hs1 : s < 65536) (hu0 : 0 ≤ u) (hu1 : u < 256) (h100 : n ≤ 100) (hmay : mayB size b = true) :
    Calls Try.prog 6 #[.agg #[.int .i64 size, .slice a n c], .agg #[.int .u16 o, .int .u16 s], .int .u8 u] w fun e w' => e = .returned (.bool true) ∧ Below w.heap.size w w' := by
  have g1 : ¬ (100 : Int) < (n : Int) := by omega
  have hb0 := ((Below.refl w.heap.size w).alloc (Nat.le_refl _) (.cells #[.int .i64 size, .slice a n c] 24)).alloc (by simp) (.cells #[.int .u16 o, .int .u16 s] 51)
  have HX0 := hid (Bx.below (Bx.new 24 w size (.slice a n c)) ((Below.refl _ _).alloc (Nat.le_refl _) (.cells #[.int .u16 o, .int .u16 s] 51)))
  have HO0 : Hid (((w.alloc (.cells #[.int .i64 size, .slice a n c] 24)).alloc (.cells #[.int .u16 o, .int .u16 s] 51)).heap[w.heap.size + 1]? = some (.cells #[.int .u16 o, .int .u16 s] 51 (0, 0))) := by
    have := heap_alloc_new (w.alloc (.cells #[.int .i64 size, .slice a n c] 24)) (.cells #[.int .u16 o, .int .u16 s] 51)
    rw [show (w.alloc (.cells #[.int .i64 size, .slice a n c] 24)).heap.size = w.heap.size + 1 by simp] at this
    exact this
  have HB0 := hid hb0
  have HR := hid (hr.below hb0)
  have HN := hid hn
  have HZ := hid hz
  have HMAY := hid hmay
  have HSZ : Hid (w.heap.size ≤ ((w.alloc (.cells #[.int .i64 size, .slice a n c] 24)).alloc (.cells #[.int .u16 o, .int .u16 s] 51)).heap.size) := hb0.size
  clear hb0 hr hn hz hmay
  go_enter Try.func6, Try.ntmps6
  go_wp2_with fail
  generalize (w.alloc (.cells #[.int .i64 size, .slice a n c] 24)).alloc (.cells #[.int .u16 o, .int .u16 s] 51) = w0 at *
  obtain ⟨q, hq⟩ : ∃ q, w.heap.size = q := ⟨_, rfl⟩
  rw [hq] at HX0 HO0 ⊢
  clear hq
  refine (awake_any w0).mono ?_
  rintro e w1 ⟨rfl, hb1⟩
  have HB1 := hid hb1
  have HX1 := hid (HX0.out.below hb1)
  have ho1' := (hb1.block (q + 1) (lt_of_some HO0.out)).trans HO0.out
  obtain ⟨x0, x1⟩ := (HX0.out.below hb1).cells
  have z0 : w1.cell? ⟨q + 1, 0, none⟩ = some (.int .u16 o) := by rw [cell_of_row w1 _ 0 _ 51 (0, 0) ho1']; rfl
  have z1 : w1.cell? ⟨q + 1, 1, none⟩ = some (.int .u16 s) := by rw [cell_of_row w1 _ 1 _ 51 (0, 0) ho1']; rfl
  clear hb1 ho1'
  go_wp2_with fail
  go_quiet (fail)
  have HBQ : Hid (Below w0.heap.size w0 (w1.drewN nq)) := ⟨HB1.out.os, HB1.out.tape, HB1.out.output, HB1.out.size, HB1.out.block⟩
  have HXQ : Hid (Bx 24 (w1.drewN nq) q size (.slice a n c)) := HX1.out
  clear x0 x1 z0 z1
  obtain ⟨x0, x1⟩ := HXQ.out.cells
  clear HB1 HX1
  generalize w1.drewN nq = w2 at *
  go_wp2_with fail
  have km := bodyMay_any (w := w2) size a b n c HN.out (HR.out.below HBQ.out) (by omega)
  rw [HMAY.out] at km
  refine km.mono ?_
  rintro e w3 ⟨rfl, hb3⟩
  have HB3 := hid (HBQ.out.trans (hb3.mono HBQ.out.size))
  have HX3 := hid (HXQ.out.below hb3)
  obtain ⟨y0, y1⟩ := (HXQ.out.below hb3).cells
  clear hb3 km x0 x1 HBQ HXQ
  obtain ⟨K, hK⟩ : ∃ K, 1 + u % 64 = K := ⟨_, rfl⟩
  have hK1 : 1 ≤ K := by omega
  have hK2 : K ≤ 64 := by omega
  go_wp2_with fail
  clear hK
  refine (made_any (w := w3) size a b n c HN.out (HR.out.below HB3.out) (by omega)).mono ?_
  rintro e w4 ⟨am, cm, rfl, hom, hb4⟩
  obtain ⟨am', cm', hvm, _, _, hrm, hzm⟩ := hom.row
  rw [HN.out] at hvm
  simp only [Value.slice.injEq, true_and] at hvm
  obtain ⟨rfl, rfl⟩ := hvm
  have HB4 := hid (HB3.out.trans (hb4.mono HB3.out.size))
  have hal := (Below.refl w4.heap.size w4).alloc (Nat.le_refl _) (.cells #[.int .i64 0, .int .i64 K, .int .i64 77777, .int .i64 0] 58)
  have HAL := hid hal
  have hp5 := prow_one (e := 58) (p := ⟨0, K, 77777, 0⟩) (heap_alloc_new w4 (.cells #[.int .i64 0, .int .i64 K, .int .i64 77777, .int .i64 0] 58))
  have k5 := write_any (w := w4.alloc (.cells #[.int .i64 0, .int .i64 K, .int .i64 77777, .int .i64 0] 58)) size am b n cm HN.out hzm (hrm.below hal) (by omega) o (by omega) (by omega) (some ⟨w4.heap.size, 0, none⟩) [⟨0, K, 77777, 0⟩] 1 1 rfl (by simp) hp5 (by decide)
  have hpc : [(⟨0, K, 77777, 0⟩ : Pt)].all pieceB = true := by
    rw [List.all_cons, (pieceB_iff ⟨0, K, 77777, 0⟩).2 ⟨hK1, hK2, by show (1 : Int) ≤ 77777; decide, by show (77777 : Int) ≤ _; decide, by show (0 : Int) ≤ 0; decide, by show (0 : Int) ≤ 64 - K; omega⟩]
    rfl
  have hle : lenP [(⟨0, K, 77777, 0⟩ : Pt)] = K := by show K + 0 = K; omega
  have hwr := writeB_some (size := size) (b := b) ⟨HMAY.out, hpc⟩ (off := o) ⟨ho0, by rw [hle]; omega⟩ (by simp)
  have hwlen := writeB_len size b o [(⟨0, K, 77777, 0⟩ : Pt)]
  have hwok := writeB_ok (size := size) (b := b) (off := o) (l := [(⟨0, K, 77777, 0⟩ : Pt)]) (by rw [hwr])
  rw [hle] at hwr
  have hcm := covers_mem (k := K) HMAY.out ho0 hK1
  rw [hwr] at k5 hwlen hwok
  obtain ⟨RP, hRP⟩ : ∃ l, ahead o b ++ (lay o [⟨0, K, 77777, 0⟩] ++ behind (o + K) b) = l := ⟨_, rfl⟩
  obtain ⟨RS, hRS⟩ : ∃ z, max size (o + K) = z := ⟨_, rfl⟩
  rw [hRP] at k5 hwlen hwok hcm
  rw [hRS] at k5 hwlen hwok
  simp only at hwlen hwok
  obtain ⟨NR, hNR⟩ : ∃ k, RP.length = k := ⟨_, rfl⟩
  have hNR2 : NR ≤ 201 := by rw [← hNR]; rw [HN.out] at hwlen; simp at hwlen; omega
  have K5 := hid k5
  have HNR := hid hNR
  have HCM := hid hcm
  have HOK := hid hwok
  clear hom hb4 hrm hzm hal hp5 k5 hpc hle hwr hwlen hwok hcm hRP hRS hNR
  go_wp2_with fail
  refine K5.out.mono ?_
  rintro e w6 ⟨hg6, hb6⟩
  obtain ⟨a6, c6, rfl, _, h6, _⟩ := hg6.at_
  simp only [HNR.out] at h6 ⊢
  have HB6 := hid (HB4.out.trans ((HAL.out.trans (hb6.mono HAL.out.size)).mono HB4.out.size))
  have hal6 := (Below.refl w6.heap.size w6).alloc (Nat.le_refl _) (.cells #[.int .i64 RS, .slice a6 NR c6] 29)
  have HY7 := hid (Bx.new 29 w6 RS (.slice a6 NR c6))
  have HR7 := hid (h6.below hal6)
  have HB7 := hid (HB6.out.trans (hal6.mono HB6.out.size))
  clear hg6 hb6 h6 hal6 K5 HAL HB6
  go_wp2_with fail
  generalize w6.alloc (.cells #[.int .i64 RS, .slice a6 NR c6] 29) = w7 at *
  generalize w6.heap.size = y7 at *
  go_loopg [12] NR (fun gk v12 wr => ∃ i : Nat, i + gk = NR ∧ v12 = .int .i64 (i : Int) ∧ Hid (Below w7.heap.size w7 wr))
  case atStart => exact ⟨0, by omega, rfl, hid (Below.refl _ _)⟩
  case round =>
    obtain ⟨i, hik, rfl, HBL⟩ := hrel
    obtain ⟨m0, m1⟩ := (HY7.out.below HBL.out).cells
    by_cases hlt : i < NR
    · have hg9 : (i : Int) < (NR : Int) := by omega
      obtain ⟨b8, o8, ha8, hbl8, hpa⟩ := (HR7.out.below HBL.out).part (i := i) (by rw [HNR.out]; exact hlt)
      have hcx := all_get2 HCM.out (i := i) (by rw [HNR.out]; exact hlt)
      have hokx : Piece (RP.getD i pt0) ∧ 0 ≤ (RP.getD i pt0).off ∧ (RP.getD i pt0).off + (RP.getD i pt0).len ≤ RS := all_get2 (P := fun p => Piece p ∧ 0 ≤ p.off ∧ p.off + p.len ≤ RS) (fun p hp => okB_mem (mayB_iff.1 HOK.out).2.2 hp) (i := i) (by rw [HNR.out]; exact hlt)
      have hrs := (mayB_iff.1 HOK.out).2.1
      obtain ⟨x, hx⟩ : ∃ x, RP.getD i pt0 = x := ⟨_, rfl⟩
      rw [hx] at hpa hcx hokx
      obtain ⟨xo, xl, xc, xa⟩ := x
      obtain ⟨e0, e1, e2, e3⟩ := hpa
      simp only [Piece] at e0 e1 e2 e3 hcx hokx
      obtain ⟨⟨p1, p2, _⟩, p7, p8⟩ := hokx
      subst ha8
      have HBX := hid (HBL.out.trans (((Below.refl wr.heap.size wr).alloc (Nat.le_refl _) (.cells #[.int .i64 xo, .int .i64 xl, .int .i64 xc, .int .i64 xa] 58)).mono HBL.out.size))
      clear hx hbl8
      by_cases hc7 : xc = 77777
      · subst hc7
        clear hcx
        go_wp2_with fail
        go_roundg (gk - 1)
        case measure => omega
        case rel => exact ⟨i + 1, by omega, by go_num, HBX⟩
      · have hc8 : ((xc : Int) != 77777) = true := by simpa using hc7
        by_cases hca : xo < o + K
        · have hcb : xo + xl ≤ o := by
            rcases hcx with h | h | h
            · exact absurd h hc7
            · exact h
            · omega
          clear hcx
          go_wp2_with fail
          go_roundg (gk - 1)
          case measure => omega
          case rel => exact ⟨i + 1, by omega, by go_num, HBX⟩
        · clear hcx
          go_wp2_with fail
          go_roundg (gk - 1)
          case measure => omega
          case rel => exact ⟨i + 1, by omega, by go_num, HBX⟩
    · have hg9 : ¬ (i : Int) < (NR : Int) := by omega
      have htr : truncB RS RP s = (s, ahead s RP, 0) := by unfold truncB; rw [if_pos HOK.out, if_pos ⟨hs0, by omega⟩]
      have hal1 := ahead_len s RP
      have hae := ahead_end (off := s) (mayB_iff.1 HOK.out).2.2
      have hty := trunc_ok HOK.out hs0 (by omega : s ≤ 1099511627776)
      obtain ⟨SP, hSP⟩ : ∃ l, ahead s RP = l := ⟨_, rfl⟩
      rw [hSP] at htr hal1 hae hty
      have htr2 : truncB s SP 1099511627776 = (1099511627776, SP, 0) := by
        unfold truncB
        rw [if_pos hty, if_pos ⟨by decide, by decide⟩, ahead_all (mayB_iff.1 hty).2.2 (by omega)]
      obtain ⟨NS, hNS⟩ : ∃ k, SP.length = k := ⟨_, rfl⟩
      rw [hNS, HNR.out] at hal1
      have hty9 : ∀ i, i < NS → 0 ≤ (SP.getD i pt0).off ∧ 1 ≤ (SP.getD i pt0).len := fun i hi => all_get2 (P := fun p => 0 ≤ p.off ∧ 1 ≤ p.len) (fun p hp => by obtain ⟨h1, h2, _⟩ := okB_mem (mayB_iff.1 hty).2.2 hp; exact ⟨h2, h1.1⟩) (by rw [hNS]; exact hi)
      have HTY9 := hid hty9
      clear hty9
      have HNS := hid hNS
      have HAE := hid hae
      have k8 := trunc_any (w := wr) RS a6 RP NR c6 HNR.out (HR7.out.below HBL.out) (by omega) s (by omega) (by omega)
      rw [htr] at k8
      have K8 := hid k8
      have HTR2 := hid htr2
      clear hSP hae hty hNS htr htr2 k8
      go_wp2_with fail
      refine K8.out.mono ?_
      rintro e w8 ⟨hg8, hb8⟩
      obtain ⟨a8, c8, rfl, _, h8, _⟩ := hg8.at_
      simp only [HNS.out] at h8 ⊢
      have hal8 := (Below.refl w8.heap.size w8).alloc (Nat.le_refl _) (.cells #[.int .i64 s, .slice a8 NS c8] 29)
      have HY9 := hid (Bx.new 29 w8 s (.slice a8 NS c8))
      have HR9 := hid (h8.below hal8)
      have HB9 := hid (HBL.out.trans ((hb8.trans (hal8.mono hb8.size)).mono HBL.out.size))
      clear hg8 hb8 h8 hal8 K8 m0 m1
      go_wp2_with fail
      generalize w8.alloc (.cells #[.int .i64 s, .slice a8 NS c8] 29) = w9 at *
      generalize w8.heap.size = y9 at *
      have k10 := trunc_any (w := w9) s a8 SP NS c8 HNS.out HR9.out (by omega) 1099511627776 (by decide) (by decide)
      rw [HTR2.out] at k10
      refine k10.mono ?_
      rintro e w10 ⟨hg10, hb10⟩
      obtain ⟨a10, c10, rfl, _, h10, _⟩ := hg10.at_
      simp only [HNS.out] at h10 ⊢
      have hal10 := (Below.refl w10.heap.size w10).alloc (Nat.le_refl _) (.cells #[.int .i64 1099511627776, .slice a10 NS c10] 29)
      have HY11 := hid (Bx.new 29 w10 1099511627776 (.slice a10 NS c10))
      have HR11 := hid (h10.below hal10)
      have HB11 := hid (hb10.trans (hal10.mono hb10.size))
      clear hg10 hb10 h10 hal10 k10
      have HY9b := hid (HY9.out.below HB11.out)
      obtain ⟨m0, m1⟩ := (HY9.out.below HB11.out).cells
      obtain ⟨r0, r1⟩ := HY11.out.cells
      go_wp2_with fail
      generalize w10.alloc (.cells #[.int .i64 1099511627776, .slice a10 NS c10] 29) = w11 at *
      generalize w10.heap.size = y11 at *
      have HB12 := hid (HB0.out.trans ((HB7.out.trans ((HB9.out.trans (HB11.out.mono HB9.out.size)).mono HB7.out.size)).mono HSZ.out))
      clear m0 m1 r0 r1
      go_loopg [18] NS (fun gk v18 wr => ∃ i : Nat, i + gk = NS ∧ v18 = .int .i64 (i : Int) ∧ Hid (Below w11.heap.size w11 wr))
      case atStart => exact ⟨0, by omega, rfl, hid (Below.refl _ _)⟩
      case round =>
        obtain ⟨i, hik, rfl, HBM⟩ := hrel
        obtain ⟨r0, r1⟩ := (HY11.out.below HBM.out).cells
        by_cases hlt : i < NS
        · have hg9 : (i : Int) < (NS : Int) := by omega
          obtain ⟨b8, o8, ha8, hbl8, hpa⟩ := (HR11.out.below HBM.out).part (i := i) (by rw [HNS.out]; exact hlt)
          have hax := all_get2 HAE.out (i := i) (by rw [HNS.out]; exact hlt)
          obtain ⟨x, hx⟩ : ∃ x, SP.getD i pt0 = x := ⟨_, rfl⟩
          rw [hx] at hpa hax
          obtain ⟨xo, xl, xc, xa⟩ := x
          obtain ⟨e0, e1, e2, e3⟩ := hpa
          simp only at e0 e1 e2 e3 hax
          subst ha8
          have hsp := HTY9.out i hlt
          rw [hx] at hsp
          simp only at hsp
          have w1' : IntKind.i64.wrap s = s := by obtain ⟨o9, rfl⟩ : ∃ k : Nat, s = (k : Int) := ⟨s.toNat, by omega⟩; exact wrap_i64 o9 (by omega)
          have w2' : IntKind.i64.wrap (xo + xl) = xo + xl := by obtain ⟨o9, ho9⟩ : ∃ k : Nat, xo + xl = (k : Int) := ⟨(xo + xl).toNat, by omega⟩; rw [ho9]; exact wrap_i64 o9 (by omega)
          have hdd : decide (s < xo + xl) = false := by simp; omega
          clear hx hbl8 hsp
          go_wp2_with fail
          go_quiet (fail)
          have HBQ9 : Hid (Below w11.heap.size w11 (wr.drewN nq)) := ⟨HBM.out.os, HBM.out.tape, HBM.out.output, HBM.out.size, HBM.out.block⟩
          generalize wr.drewN nq = wq at *
          go_wp2_with fail
          go_roundg (gk - 1)
          case measure => omega
          case rel => exact ⟨i + 1, by omega, by go_num, HBQ9⟩
        · have hg9 : ¬ (i : Int) < (NS : Int) := by omega
          go_wp2_with fail
          go_ret
          exact ⟨rfl, HB12.out.trans (HBM.out.mono HB12.out.size)⟩
end Go.Proofs.Ytccahhehbpahoaa
