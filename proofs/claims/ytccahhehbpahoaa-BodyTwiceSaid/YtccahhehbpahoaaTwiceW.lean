/- BodyTwice, as it is walked: the same parts written at the same place again change nothing; cut to its own size, neither. No condition. -/
import Derived.Test.YtccahhehbpahoaaLaw
namespace Go.Proofs.Ytccahhehbpahoaa
open Go.ChangeShapes Go.WideShapes Go.ChangeAt Go.RowKit
set_option maxRecDepth 4000
set_option linter.unusedVariables false
attribute [local go_sem ↓] Go.wp_at_zero Go.wp_at_succ
set_option maxHeartbeats 1000000 in
theorem bodyTwice_walk {w : World} (size : Int) (a : Option Addr) (b : List Pt) (n c : Nat) (hn : b.length = n) (hr : PRow w a b) (hz : a = none → c = 0) (a2 : Option Addr) (l : List Pt) (m c2 : Nat) (hn2 : l.length = m) (hr2 : PRow w a2 l) (off : Int) (ho0 : 0 ≤ off) (ho1 : off < 65536) (h100 : n ≤ 100) (h60 : m ≤ 60) :
    Calls Try.prog 7 #[.agg #[.int .i64 size, .slice a n c], .slice a2 m c2, .int .u16 off] w fun e w' => e = .returned (.bool true) ∧ Below w.heap.size w w' := by
  have g1 : ¬ (100 : Int) < (n : Int) := by omega
  have g2 : ¬ (60 : Int) < (m : Int) := by omega
  have hb0 := (Below.refl w.heap.size w).alloc (Nat.le_refl _) (.cells #[.int .i64 size, .slice a n c] 24)
  have HX0 := hid (Bx.new 24 w size (.slice a n c))
  have HB0 := hid hb0
  have HR := hid (hr.below hb0)
  have HR2 := hid (hr2.below hb0)
  have HN := hid hn
  have HN2 := hid hn2
  have HZ := hid hz
  have HSZ : Hid (w.heap.size ≤ (w.alloc (.cells #[.int .i64 size, .slice a n c] 24)).heap.size) := hb0.size
  clear hb0 hr hr2 hn hn2 hz
  go_enter Try.func7, Try.ntmps7
  go_wp2_with fail
  generalize w.alloc (.cells #[.int .i64 size, .slice a n c] 24) = w0 at *
  obtain ⟨q, hq⟩ : ∃ q, w.heap.size = q := ⟨_, rfl⟩
  rw [hq] at HX0 ⊢
  clear hq
  refine (awake_any w0).mono ?_
  rintro e w1 ⟨rfl, hb1⟩
  have HB1 := hid hb1
  have HX1 := hid (HX0.out.below hb1)
  obtain ⟨x0, x1⟩ := (HX0.out.below hb1).cells
  clear hb1
  go_wp2_with fail
  refine (made_any (w := w1) size a b n c HN.out (HR.out.below HB1.out) (by omega)).mono ?_
  rintro e w2 ⟨am, cm, rfl, hom, hb2⟩
  have HOM := hid hom
  have HB2 := hid (HB1.out.trans (hb2.mono HB1.out.size))
  have HX2 := hid (HX1.out.below hb2)
  clear hom hb2 x0 x1
  go_wp2_with fail
  refine (parts_any (w := w2) a2 l m c2 HN2.out (HR2.out.below HB2.out) (by omega)).mono ?_
  rintro e w3 ⟨vp, rfl, hop, hb3⟩
  obtain ⟨ap, cp, hvp, _, _, hrp, hzp⟩ := hop.row
  rw [HN2.out] at hvp
  subst hvp
  obtain ⟨am', cm', hvm, _, _, hrm, hzm⟩ := (HOM.out.below hb3).row
  rw [HN.out] at hvm
  simp only [Value.slice.injEq, true_and] at hvm
  obtain ⟨rfl, rfl⟩ := hvm
  have HB3 := hid (HB2.out.trans (hb3.mono HB2.out.size))
  have HX3 := hid (HX2.out.below hb3)
  have K3 := hid (write_any (w := w3) size am b n cm HN.out hzm hrm (by omega) off (by omega) (by omega) ap l m cp HN2.out hzp hrp (by omega))
  have hlen := writeB_len size b off l
  have hwok := fun h => writeB_ok (size := size) (b := b) (off := off) (l := l) h
  have hwtw := fun h => writeB_twice (size := size) (b := b) (off := off) (l := l) h
  have HWE := hid (writeB_err size b off l)
  obtain ⟨⟨rs, rp, re⟩, hre⟩ : ∃ r, writeB size b off l = r := ⟨_, rfl⟩
  rw [hre] at K3 hlen hwok hwtw HWE
  have HRE := hid hre
  simp only at hlen hwok hwtw
  obtain ⟨nr, hnr⟩ : ∃ k, rp.length = k := ⟨_, rfl⟩
  rw [hnr, HN.out, HN2.out] at hlen
  have HNR := hid hnr
  have HWOK := hid hwok
  have HWTW := hid hwtw
  clear hop hb3 hrp hzp hrm hzm hre hnr hwok hwtw HOM
  go_wp2_with fail
  refine K3.out.mono ?_
  rintro e w4 ⟨hg4, hb4⟩
  obtain ⟨a4, c4, rfl, ho4, hr4, hz4⟩ := hg4.at_
  simp only [HNR.out] at ho4 hz4 ⊢
  have HB4 := hid (HB3.out.trans (hb4.mono HB3.out.size))
  have hal4 := (Below.refl w4.heap.size w4).alloc (Nat.le_refl _) (.cells #[.int .i64 rs, .slice a4 nr c4] 29)
  have HY5 := hid (Bx.new 29 w4 rs (.slice a4 nr c4))
  have HX5 := hid ((HX3.out.below hb4).below hal4)
  have HB5 := hid (HB4.out.trans (hal4.mono HB4.out.size))
  have HR5 := hid (hr4.below hal4)
  have HZ4 := hid hz4
  clear hg4 hb4 ho4 hr4 hz4 hal4 K3
  by_cases hre0 : re = 0
  case neg =>
    have hne : ((re : Int) != 0) = true := by simp; omega
    go_wp2_with fail
    go_ret
    exact ⟨rfl, HB0.out.trans (HB5.out.mono HSZ.out)⟩
  subst hre0
  have hok := HWOK.out rfl
  have htw := HWTW.out rfl
  have HOK := hid hok
  have HTW := hid htw
  clear hok htw HWOK HWTW HWE
  go_wp2_with fail
  generalize w4.alloc (.cells #[.int .i64 rs, .slice a4 nr c4] 29) = w5 at *
  generalize w4.heap.size = y5 at *
  obtain ⟨y0, y1⟩ := HY5.out.cells
  have hs0 := (HY5.out.below ((Below.refl w5.heap.size w5).drew)).cells
  have hbd := (Below.refl w5.heap.size w5).drew
  have hS : ∀ W, Below w5.heap.size w5 W → (W.cell? ⟨y5, 0, none⟩ = some (.int .i64 rs) ∧ W.cell? ⟨y5, 1, none⟩ = some (.slice a4 nr c4)) ∧ Below w5.heap.size w5 W := fun W hW => ⟨(HY5.out.below hW).cells, hW⟩
  have hP : ∀ W, ((W.cell? ⟨y5, 0, none⟩ = some (.int .i64 rs) ∧ W.cell? ⟨y5, 1, none⟩ = some (.slice a4 nr c4)) ∧ Below w5.heap.size w5 W) → Calls Try.prog 12 #[.slice a2 m c2] W fun e w' => ∃ a6 c6, e = .returned (.slice a6 m c6) ∧ Hid (Below W.heap.size W w') ∧ Hid (PRow w' a6 l ∧ (a6 = none → c6 = 0)) ∧ (∀ y k, y < W.heap.size → w'.cell? ⟨y, k, none⟩ = W.cell? ⟨y, k, none⟩) ∧ (∀ y k, y < W.heap.size → w'.frozen? ⟨y, k, none⟩ = W.frozen? ⟨y, k, none⟩) ∧ (∀ y, y < W.heap.size → y < w'.heap.size) ∧ ((w'.cell? ⟨y5, 0, none⟩ = some (.int .i64 rs) ∧ w'.cell? ⟨y5, 1, none⟩ = some (.slice a4 nr c4)) ∧ Below w5.heap.size w5 w') := by
    intro W hW
    refine (parts_at HN2.out (HR2.out.below HB5.out) (by omega) W hW.2).mono ?_
    rintro e w' ⟨a', c', rfl, h1, h2, hb⟩
    have hl := left_of hb
    exact ⟨a', c', rfl, hb, ⟨h1, h2⟩, hl.cell, hl.frozen, hl.size, hS _ (hW.2.trans (hb.mono hW.2.size))⟩
  have hWr : ∀ W a6 c6, ((W.cell? ⟨y5, 0, none⟩ = some (.int .i64 rs) ∧ W.cell? ⟨y5, 1, none⟩ = some (.slice a4 nr c4)) ∧ Below w5.heap.size w5 W) → (PRow W a6 l ∧ (a6 = none → c6 = 0)) → Calls Try.prog 10 #[.agg #[.int .i64 rs, .slice a4 nr c4], .int .i64 off, .slice a6 m c6] W fun e w' => ∃ a7 c7, e = .returned (.tuple #[.agg #[.int .i64 rs, .slice a7 nr c7], .int .i64 0]) ∧ Hid (Below W.heap.size W w') ∧ Hid (POwn 58 W.heap.size w' (.slice a7 nr c7) rp) ∧ (∀ y k, y < W.heap.size → w'.cell? ⟨y, k, none⟩ = W.cell? ⟨y, k, none⟩) ∧ (∀ y k, y < W.heap.size → w'.frozen? ⟨y, k, none⟩ = W.frozen? ⟨y, k, none⟩) ∧ (∀ y, y < W.heap.size → y < w'.heap.size) ∧ ((w'.cell? ⟨y5, 0, none⟩ = some (.int .i64 rs) ∧ w'.cell? ⟨y5, 1, none⟩ = some (.slice a4 nr c4)) ∧ Below w5.heap.size w5 w') := by
    intro W a6 c6 hW h6
    refine (write_any rs a4 rp nr c4 HNR.out HZ4.out (HR5.out.below hW.2) (by omega) off (by omega) (by omega) a6 l m c6 HN2.out h6.2 h6.1 (by omega)).mono ?_
    rintro e w' ⟨hg, hb⟩
    rw [HTW.out] at hg
    obtain ⟨a7, c7, rfl, h7, _, _⟩ := hg.at_
    simp only [HNR.out] at h7 ⊢
    have hl := left_of hb
    exact ⟨a7, c7, rfl, hb, h7, hl.cell, hl.frozen, hl.size, hS _ (hW.2.trans (hb.mono hW.2.size))⟩
  have hK : ∀ (W : World) (o : Obj), ((W.cell? ⟨y5, 0, none⟩ = some (.int .i64 rs) ∧ W.cell? ⟨y5, 1, none⟩ = some (.slice a4 nr c4)) ∧ Below w5.heap.size w5 W) → (((W.alloc o).cell? ⟨y5, 0, none⟩ = some (.int .i64 rs) ∧ (W.alloc o).cell? ⟨y5, 1, none⟩ = some (.slice a4 nr c4)) ∧ Below w5.heap.size w5 (W.alloc o)) := fun W o h => hS _ (h.2.alloc h.2.size o)
  have hSet : ∀ (W : World) (y : Nat) (z v : Value), w5.heap.size ≤ y → ((W.cell? ⟨y5, 0, none⟩ = some (.int .i64 rs) ∧ W.cell? ⟨y5, 1, none⟩ = some (.slice a4 nr c4)) ∧ Below w5.heap.size w5 W) → ((((W.setCell ⟨y, 0, none⟩ z).setCell ⟨y, 1, none⟩ v).cell? ⟨y5, 0, none⟩ = some (.int .i64 rs) ∧ ((W.setCell ⟨y, 0, none⟩ z).setCell ⟨y, 1, none⟩ v).cell? ⟨y5, 1, none⟩ = some (.slice a4 nr c4)) ∧ Below w5.heap.size w5 ((W.setCell ⟨y, 0, none⟩ z).setCell ⟨y, 1, none⟩ v)) := fun W y z v hy h => hS _ ((h.2.setCell (by simpa using hy) _).setCell (by simpa using hy) _)
  have hs0' : (w5.drew.cell? ⟨y5, 0, none⟩ = some (.int .i64 rs) ∧ w5.drew.cell? ⟨y5, 1, none⟩ = some (.slice a4 nr c4)) ∧ Below w5.heap.size w5 w5.drew := hS _ hbd
  clear hs0 hbd
  have hwo : IntKind.i64.wrap off = off := by obtain ⟨o9, rfl⟩ : ∃ k : Nat, off = (k : Int) := ⟨off.toNat, by omega⟩; exact wrap_i64 o9 (by omega)
  go_region_held (fun W => (W.cell? ⟨y5, 0, none⟩ = some (.int .i64 rs) ∧ W.cell? ⟨y5, 1, none⟩ = some (.slice a4 nr c4)) ∧ Below w5.heap.size w5 W) (first | with_reducible assumption | exact hK _ _ (by with_reducible assumption) | exact hSet _ _ _ _ hs6.2.size (by with_reducible assumption) | exact hSet _ _ _ _ (Nat.le_refl _) (by with_reducible assumption)) (first
    | (go_at_call 12; refine (hP _ ?_).mono ?_; with_reducible assumption; rintro e w6 ⟨a6, c6, rfl, HL6, H6, r1, r2, r3, hs6⟩)
    | (go_at_call 10; refine (hWr _ a6 c6 ?_ ?_).mono ?_; with_reducible assumption; (first | with_reducible exact H6.out | exact ⟨H6.out.1.below ((Below.refl _ _).alloc (Nat.le_refl _) _), H6.out.2⟩); rintro e w7 ⟨a7, c7, rfl, HL7, H7, q1, q2, q3, hs7⟩))
  · have HY9 := hid (Bx.new 29 w7 rs (.slice a7 nr c7))
    have HB9 := hid (hs7.2.alloc hs7.2.size (.cells #[.int .i64 rs, .slice a7 nr c7] 29))
    have HO9 : Hid (PRow (w7.alloc (.cells #[.int .i64 rs, .slice a7 nr c7] 29)) a7 rp) := by
      obtain ⟨a', c', hv, _, _, h2, _⟩ := H7.out.row
      simp only [Value.slice.injEq] at hv
      obtain ⟨rfl, _, rfl⟩ := hv
      exact h2.below ((Below.refl _ _).alloc (Nat.le_refl _) _)
    clear r1 r2 r3 q1 q2 q3 hs6 hs7 hS hP hWr hK hSet hs0' HL6 HL7 H6 H7
    generalize w7.alloc (.cells #[.int .i64 rs, .slice a7 nr c7] 29) = w9 at *
    generalize w7.heap.size = y9 at *
    have HBA := hid (HB5.out.trans (HB9.out.mono HB5.out.size))
    have HX9 := hid (HX5.out.below HB9.out)
    have HZ9 := hid (HY5.out.below HB9.out)
    obtain ⟨z0, z1⟩ := HZ9.out.cells
    clear y0 y1
    go_wp2_with fail
    have k10 := trunc_any (w := w9) rs a4 rp nr c4 HNR.out (HR5.out.below HB9.out) (by omega) rs (by have := (mayB_iff.1 HOK.out).1; omega) (by have := (mayB_iff.1 HOK.out).2.1; omega)
    rw [truncB_same HOK.out] at k10
    refine k10.mono ?_
    rintro e w10 ⟨hg10, hb10⟩
    obtain ⟨a10, c10, rfl, _, h10, _⟩ := hg10.at_
    simp only [HNR.out] at h10 ⊢
    have hal10 := (Below.refl w10.heap.size w10).alloc (Nat.le_refl _) (.cells #[.int .i64 rs, .slice a10 nr c10] 29)
    have HD11 := hid (Bx.new 29 w10 rs (.slice a10 nr c10))
    have HBB := hid (hb10.trans (hal10.mono hb10.size))
    have HO11 := hid (h10.below hal10)
    have HX11 := hid (HX9.out.below HBB.out)
    obtain ⟨x0, x1⟩ := HX11.out.cells
    clear hg10 hb10 h10 hal10 z0 z1 k10
    go_wp2_with fail
    generalize w10.alloc (.cells #[.int .i64 rs, .slice a10 nr c10] 29) = w11 at *
    generalize w10.heap.size = y11 at *
    have HBC := hid (HBA.out.trans (HBB.out.mono HBA.out.size))
    have k12 := refWrite_any (w := w11) size a b n c HN.out HZ.out (HR.out.below HBC.out) (by omega) off (by omega) (by omega) a2 l m c2 HN2.out (HR2.out.below HBC.out) (by omega)
    rw [HRE.out] at k12
    refine k12.mono ?_
    rintro e w12 ⟨hg12, hb12⟩
    obtain ⟨a12, c12, rfl, h12, _⟩ := hg12.at_
    simp only [HNR.out] at h12 ⊢
    have hal12 := (Below.refl w12.heap.size w12).alloc (Nat.le_refl _) (.cells #[.int .i64 rs, .slice a12 nr c12] 24)
    have HE13 := hid (Bx.new 24 w12 rs (.slice a12 nr c12))
    have HBD := hid (hb12.trans (hal12.mono hb12.size))
    have HO13 := hid (h12.below hal12)
    clear hg12 hb12 h12 hal12 x0 x1 k12
    have HD13 := hid (HD11.out.below HBD.out)
    have HZ13 := hid ((HZ9.out.below HBB.out).below HBD.out)
    have HY13 := hid ((HY9.out.below HBB.out).below HBD.out)
    have HR13 := hid ((HO9.out.below HBB.out).below HBD.out)
    have HS13 := hid (HO11.out.below HBD.out)
    have HBE := hid (HBC.out.trans (HBD.out.mono HBC.out.size))
    obtain ⟨m0, m1⟩ := HY13.out.cells
    obtain ⟨p0, p1⟩ := HE13.out.cells
    go_wp2_with fail
    generalize w12.alloc (.cells #[.int .i64 rs, .slice a12 nr c12] 24) = w13 at *
    generalize w12.heap.size = y13 at *
    refine (same_any (w := w13) rs a7 a12 rp nr c7 c12 HNR.out HR13.out HO13.out (by omega)).mono ?_
    rintro e w14 ⟨rfl, hb14⟩
    have HB14 := hid hb14
    clear hb14 m0 m1 p0 p1
    obtain ⟨m0, m1⟩ := (HD13.out.below HB14.out).cells
    obtain ⟨p0, p1⟩ := (HE13.out.below HB14.out).cells
    go_wp2_with fail
    refine (same_any (w := w14) rs a10 a12 rp nr c10 c12 HNR.out (HS13.out.below HB14.out) (HO13.out.below HB14.out) (by omega)).mono ?_
    rintro e w15 ⟨rfl, hb15⟩
    have HB15 := hid (HB14.out.trans (hb15.mono HB14.out.size))
    clear hb15 m0 m1 p0 p1
    obtain ⟨m0, m1⟩ := (HZ13.out.below HB15.out).cells
    go_wp2_with fail
    have k16 := may_any16 (w := w15) rs a4 rp nr c4 HNR.out (HR5.out.below (HB9.out.trans ((HBB.out.trans ((HBD.out.trans (HB15.out.mono HBD.out.size)).mono HBB.out.size)).mono HB9.out.size))) (by omega)
    rw [HOK.out] at k16
    refine k16.mono ?_
    rintro e w16 ⟨rfl, hb16⟩
    have HBF := hid (HB0.out.trans ((HBE.out.trans ((HB15.out.trans (hb16.mono HB15.out.size)).mono HBE.out.size)).mono HSZ.out))
    clear hb16 m0 m1 k16
    go_wp2_with fail
    go_ret
    exact ⟨rfl, HBF.out⟩
  · have HY9 : Hid (Bx 29 ((w7.setCell ⟨w6.heap.size, 0, none⟩ (.int .i64 rs)).setCell ⟨w6.heap.size, 1, none⟩ (.slice a7 nr c7)) w6.heap.size rs (.slice a7 nr c7)) := Bx.set2 ((Bx.new 29 w6 0 (.slice none 0 0)).below HL7.out) rs (.slice a7 nr c7)
    have HB9 := hid (hSet w7 w6.heap.size (.int .i64 rs) (.slice a7 nr c7) hs6.2.size hs7).2
    have HO9 : Hid (PRow ((w7.setCell ⟨w6.heap.size, 0, none⟩ (.int .i64 rs)).setCell ⟨w6.heap.size, 1, none⟩ (.slice a7 nr c7)) a7 rp) := by
      have h9 := H7.out.set2 (r := w6.heap.size) (by first | simp | exact HL6.out.size | (have := HL6.out.size; simp at this; omega)) (.int .i64 rs) (.slice a7 nr c7)
      obtain ⟨a', c', hv, _, _, h2, _⟩ := h9.row
      simp only [Value.slice.injEq] at hv
      obtain ⟨rfl, _, rfl⟩ := hv
      exact h2
    have hsz9 : w6.heap.size = w6.heap.size := rfl
    clear r1 r2 r3 q1 q2 q3 hs6 hs7 hS hP hWr hK hSet hs0' HL6 HL7 H6 H7 hsz9
    generalize (w7.setCell ⟨w6.heap.size, 0, none⟩ (.int .i64 rs)).setCell ⟨w6.heap.size, 1, none⟩ (.slice a7 nr c7) = w9 at *
    obtain ⟨y9, hy9⟩ : ∃ y9, w6.heap.size = y9 := ⟨_, rfl⟩
    rw [hy9] at HY9 ⊢
    clear hy9
    have HBA := hid (HB5.out.trans (HB9.out.mono HB5.out.size))
    have HX9 := hid (HX5.out.below HB9.out)
    have HZ9 := hid (HY5.out.below HB9.out)
    obtain ⟨z0, z1⟩ := HZ9.out.cells
    clear y0 y1
    go_wp2_with fail
    have k10 := trunc_any (w := w9) rs a4 rp nr c4 HNR.out (HR5.out.below HB9.out) (by omega) rs (by have := (mayB_iff.1 HOK.out).1; omega) (by have := (mayB_iff.1 HOK.out).2.1; omega)
    rw [truncB_same HOK.out] at k10
    refine k10.mono ?_
    rintro e w10 ⟨hg10, hb10⟩
    obtain ⟨a10, c10, rfl, _, h10, _⟩ := hg10.at_
    simp only [HNR.out] at h10 ⊢
    have hal10 := (Below.refl w10.heap.size w10).alloc (Nat.le_refl _) (.cells #[.int .i64 rs, .slice a10 nr c10] 29)
    have HD11 := hid (Bx.new 29 w10 rs (.slice a10 nr c10))
    have HBB := hid (hb10.trans (hal10.mono hb10.size))
    have HO11 := hid (h10.below hal10)
    have HX11 := hid (HX9.out.below HBB.out)
    obtain ⟨x0, x1⟩ := HX11.out.cells
    clear hg10 hb10 h10 hal10 z0 z1 k10
    go_wp2_with fail
    generalize w10.alloc (.cells #[.int .i64 rs, .slice a10 nr c10] 29) = w11 at *
    generalize w10.heap.size = y11 at *
    have HBC := hid (HBA.out.trans (HBB.out.mono HBA.out.size))
    have k12 := refWrite_any (w := w11) size a b n c HN.out HZ.out (HR.out.below HBC.out) (by omega) off (by omega) (by omega) a2 l m c2 HN2.out (HR2.out.below HBC.out) (by omega)
    rw [HRE.out] at k12
    refine k12.mono ?_
    rintro e w12 ⟨hg12, hb12⟩
    obtain ⟨a12, c12, rfl, h12, _⟩ := hg12.at_
    simp only [HNR.out] at h12 ⊢
    have hal12 := (Below.refl w12.heap.size w12).alloc (Nat.le_refl _) (.cells #[.int .i64 rs, .slice a12 nr c12] 24)
    have HE13 := hid (Bx.new 24 w12 rs (.slice a12 nr c12))
    have HBD := hid (hb12.trans (hal12.mono hb12.size))
    have HO13 := hid (h12.below hal12)
    clear hg12 hb12 h12 hal12 x0 x1 k12
    have HD13 := hid (HD11.out.below HBD.out)
    have HZ13 := hid ((HZ9.out.below HBB.out).below HBD.out)
    have HY13 := hid ((HY9.out.below HBB.out).below HBD.out)
    have HR13 := hid ((HO9.out.below HBB.out).below HBD.out)
    have HS13 := hid (HO11.out.below HBD.out)
    have HBE := hid (HBC.out.trans (HBD.out.mono HBC.out.size))
    obtain ⟨m0, m1⟩ := HY13.out.cells
    obtain ⟨p0, p1⟩ := HE13.out.cells
    go_wp2_with fail
    generalize w12.alloc (.cells #[.int .i64 rs, .slice a12 nr c12] 24) = w13 at *
    generalize w12.heap.size = y13 at *
    refine (same_any (w := w13) rs a7 a12 rp nr c7 c12 HNR.out HR13.out HO13.out (by omega)).mono ?_
    rintro e w14 ⟨rfl, hb14⟩
    have HB14 := hid hb14
    clear hb14 m0 m1 p0 p1
    obtain ⟨m0, m1⟩ := (HD13.out.below HB14.out).cells
    obtain ⟨p0, p1⟩ := (HE13.out.below HB14.out).cells
    go_wp2_with fail
    refine (same_any (w := w14) rs a10 a12 rp nr c10 c12 HNR.out (HS13.out.below HB14.out) (HO13.out.below HB14.out) (by omega)).mono ?_
    rintro e w15 ⟨rfl, hb15⟩
    have HB15 := hid (HB14.out.trans (hb15.mono HB14.out.size))
    clear hb15 m0 m1 p0 p1
    obtain ⟨m0, m1⟩ := (HZ13.out.below HB15.out).cells
    go_wp2_with fail
    have k16 := may_any16 (w := w15) rs a4 rp nr c4 HNR.out (HR5.out.below (HB9.out.trans ((HBB.out.trans ((HBD.out.trans (HB15.out.mono HBD.out.size)).mono HBB.out.size)).mono HB9.out.size))) (by omega)
    rw [HOK.out] at k16
    refine k16.mono ?_
    rintro e w16 ⟨rfl, hb16⟩
    have HBF := hid (HB0.out.trans ((HBE.out.trans ((HB15.out.trans (hb16.mono HB15.out.size)).mono HBE.out.size)).mono HSZ.out))
    clear hb16 m0 m1 k16
    go_wp2_with fail
    go_ret
    exact ⟨rfl, HBF.out⟩
  · have HY9 : Hid (Bx 29 ((w7.setCell ⟨w5.heap.size, 0, none⟩ (.int .i64 rs)).setCell ⟨w5.heap.size, 1, none⟩ (.slice a7 nr c7)) w5.heap.size rs (.slice a7 nr c7)) := Bx.set2 ((Bx.below (Bx.below (show Bx 29 ((w5.alloc (.cells #[.int .i64 0, .slice none 0 0] 29)).drew) w5.heap.size 0 (.slice none 0 0) from Bx.new 29 w5 0 (.slice none 0 0)) HL6.out) HL7.out)) rs (.slice a7 nr c7)
    have HB9 := hid (hSet w7 w5.heap.size (.int .i64 rs) (.slice a7 nr c7) (Nat.le_refl _) hs7).2
    have HO9 : Hid (PRow ((w7.setCell ⟨w5.heap.size, 0, none⟩ (.int .i64 rs)).setCell ⟨w5.heap.size, 1, none⟩ (.slice a7 nr c7)) a7 rp) := by
      have h9 := H7.out.set2 (r := w5.heap.size) (by first | simp | exact HL6.out.size | (have := HL6.out.size; simp at this; omega)) (.int .i64 rs) (.slice a7 nr c7)
      obtain ⟨a', c', hv, _, _, h2, _⟩ := h9.row
      simp only [Value.slice.injEq] at hv
      obtain ⟨rfl, _, rfl⟩ := hv
      exact h2
    have hsz9 : w5.heap.size = w5.heap.size := rfl
    clear r1 r2 r3 q1 q2 q3 hs6 hs7 hS hP hWr hK hSet hs0' HL6 HL7 H6 H7 hsz9
    generalize (w7.setCell ⟨w5.heap.size, 0, none⟩ (.int .i64 rs)).setCell ⟨w5.heap.size, 1, none⟩ (.slice a7 nr c7) = w9 at *
    obtain ⟨y9, hy9⟩ : ∃ y9, w5.heap.size = y9 := ⟨_, rfl⟩
    rw [hy9] at HY9 ⊢
    clear hy9
    have HBA := hid (HB5.out.trans (HB9.out.mono HB5.out.size))
    have HX9 := hid (HX5.out.below HB9.out)
    have HZ9 := hid (HY5.out.below HB9.out)
    obtain ⟨z0, z1⟩ := HZ9.out.cells
    clear y0 y1
    go_wp2_with fail
    have k10 := trunc_any (w := w9) rs a4 rp nr c4 HNR.out (HR5.out.below HB9.out) (by omega) rs (by have := (mayB_iff.1 HOK.out).1; omega) (by have := (mayB_iff.1 HOK.out).2.1; omega)
    rw [truncB_same HOK.out] at k10
    refine k10.mono ?_
    rintro e w10 ⟨hg10, hb10⟩
    obtain ⟨a10, c10, rfl, _, h10, _⟩ := hg10.at_
    simp only [HNR.out] at h10 ⊢
    have hal10 := (Below.refl w10.heap.size w10).alloc (Nat.le_refl _) (.cells #[.int .i64 rs, .slice a10 nr c10] 29)
    have HD11 := hid (Bx.new 29 w10 rs (.slice a10 nr c10))
    have HBB := hid (hb10.trans (hal10.mono hb10.size))
    have HO11 := hid (h10.below hal10)
    have HX11 := hid (HX9.out.below HBB.out)
    obtain ⟨x0, x1⟩ := HX11.out.cells
    clear hg10 hb10 h10 hal10 z0 z1 k10
    go_wp2_with fail
    generalize w10.alloc (.cells #[.int .i64 rs, .slice a10 nr c10] 29) = w11 at *
    generalize w10.heap.size = y11 at *
    have HBC := hid (HBA.out.trans (HBB.out.mono HBA.out.size))
    have k12 := refWrite_any (w := w11) size a b n c HN.out HZ.out (HR.out.below HBC.out) (by omega) off (by omega) (by omega) a2 l m c2 HN2.out (HR2.out.below HBC.out) (by omega)
    rw [HRE.out] at k12
    refine k12.mono ?_
    rintro e w12 ⟨hg12, hb12⟩
    obtain ⟨a12, c12, rfl, h12, _⟩ := hg12.at_
    simp only [HNR.out] at h12 ⊢
    have hal12 := (Below.refl w12.heap.size w12).alloc (Nat.le_refl _) (.cells #[.int .i64 rs, .slice a12 nr c12] 24)
    have HE13 := hid (Bx.new 24 w12 rs (.slice a12 nr c12))
    have HBD := hid (hb12.trans (hal12.mono hb12.size))
    have HO13 := hid (h12.below hal12)
    clear hg12 hb12 h12 hal12 x0 x1 k12
    have HD13 := hid (HD11.out.below HBD.out)
    have HZ13 := hid ((HZ9.out.below HBB.out).below HBD.out)
    have HY13 := hid ((HY9.out.below HBB.out).below HBD.out)
    have HR13 := hid ((HO9.out.below HBB.out).below HBD.out)
    have HS13 := hid (HO11.out.below HBD.out)
    have HBE := hid (HBC.out.trans (HBD.out.mono HBC.out.size))
    obtain ⟨m0, m1⟩ := HY13.out.cells
    obtain ⟨p0, p1⟩ := HE13.out.cells
    go_wp2_with fail
    generalize w12.alloc (.cells #[.int .i64 rs, .slice a12 nr c12] 24) = w13 at *
    generalize w12.heap.size = y13 at *
    refine (same_any (w := w13) rs a7 a12 rp nr c7 c12 HNR.out HR13.out HO13.out (by omega)).mono ?_
    rintro e w14 ⟨rfl, hb14⟩
    have HB14 := hid hb14
    clear hb14 m0 m1 p0 p1
    obtain ⟨m0, m1⟩ := (HD13.out.below HB14.out).cells
    obtain ⟨p0, p1⟩ := (HE13.out.below HB14.out).cells
    go_wp2_with fail
    refine (same_any (w := w14) rs a10 a12 rp nr c10 c12 HNR.out (HS13.out.below HB14.out) (HO13.out.below HB14.out) (by omega)).mono ?_
    rintro e w15 ⟨rfl, hb15⟩
    have HB15 := hid (HB14.out.trans (hb15.mono HB14.out.size))
    clear hb15 m0 m1 p0 p1
    obtain ⟨m0, m1⟩ := (HZ13.out.below HB15.out).cells
    go_wp2_with fail
    have k16 := may_any16 (w := w15) rs a4 rp nr c4 HNR.out (HR5.out.below (HB9.out.trans ((HBB.out.trans ((HBD.out.trans (HB15.out.mono HBD.out.size)).mono HBB.out.size)).mono HB9.out.size))) (by omega)
    rw [HOK.out] at k16
    refine k16.mono ?_
    rintro e w16 ⟨rfl, hb16⟩
    have HBF := hid (HB0.out.trans ((HBE.out.trans ((HB15.out.trans (hb16.mono HB15.out.size)).mono HBE.out.size)).mono HSZ.out))
    clear hb16 m0 m1 k16
    go_wp2_with fail
    go_ret
    exact ⟨rfl, HBF.out⟩
end Go.Proofs.Ytccahhehbpahoaa
