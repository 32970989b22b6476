/- DiskKnown: a disk by hand, its sizes, fuses and tears, comes out true; no condition. -/
import Derived.Test.YtoniolndoidkcaaFrame
namespace Go.Proofs.Ytoniolndoidkcaa
open Go.ChangeShapes Go.WideShapes Go.ChangeAt Go.RowKit
theorem new3 (w : World) : Calls Try.prog 10 #[.int .i64 3] w fun e w' => ∃ q, e = .returned (.tuple #[.pointer (some ⟨q, 0, none⟩), .int .i64 0]) ∧ ∃ p, DiskAt w' q p (fresh 3) ∧ Below w.heap.size w w' ∧ w.heap.size ≤ q ∧ w.heap.size ≤ p := new_any w 3 (by decide)
theorem read2 {w : World} {q p : Nat} {d : Dk} (h : DiskAt w q p d) (hdead : d.dead = false) (hi : 2 < d.secs.length) :
    Calls Try.prog 18 #[.pointer (some ⟨q, 0, none⟩), .int .i64 2] w fun e w' => ∃ g, e = .returned (.tuple #[.slice (some ⟨g, 0, none⟩) 64 64, .int .i64 0]) ∧ Buf w' g (d.read 2) ∧ Below w.heap.size w w' ∧ w.heap.size ≤ g := read_ok (i := 2) h hdead hi
def k1 : Dk := ((fresh 3).write 0 (full [1])).1
def k2 : Dk := k1.flush.1
def k3 : Dk := (k2.write 0 (full [2])).1
def k4 : Dk := (k3.write 3 (full [2])).1
def k5 : Dk := (k4.write 1 [1]).1
def k6 : Dk := k5.fused 1
def k7 : Dk := (k6.write 2 (full [3])).1
def k8 : Dk := k7.flush.1
def k9 : Dk := k8.spoil? 2 60 [1, 2, 3, 4, 5]
def k10 : Dk := k9.spoil? 2 60 [1, 2, 3, 4]
def k11 : Dk := k10.spoil? (-1) 0 [1]
def kx : Dk := k8.crash [43, 1]
def ky : Dk := k11.crash [0]
theorem a1 : ((fresh 3).write 0 (full [1])).2 = 0 := by decide
theorem a2 : k1.flush.2 = 0 := by decide
theorem a3 : (k2.write 0 (full [2])).2 = 0 := by decide
theorem a4 : (k3.write 3 (full [2])).2 = 1 := by decide
theorem a5 : (k4.write 1 [1]).2 = 1 := by decide
theorem a7 : (k6.write 2 (full [3])).2 = 0 := by decide
theorem a8 : k7.flush.2 = 15 := by decide
theorem a9 : k8.lies 2 60 5 = false := by decide
theorem a10 : k9.lies 2 60 4 = true := by decide
theorem a11 : k10.lies (-1) 0 1 = false := by decide
theorem o0 : (fresh 3).ops < 1000000000 := by decide
theorem o1 : k1.ops < 1000000000 := by decide
theorem o2 : k2.ops < 1000000000 := by decide
theorem o3 : k3.ops < 1000000000 := by decide
theorem o4 : k4.ops < 1000000000 := by decide
theorem o6 : k6.ops < 1000000000 := by decide
theorem o7 : k7.ops < 1000000000 := by decide
theorem k8_dead : k8.dead = true ∧ k11.dead = true ∧ k11.ops = 4 := by decide +kernel
theorem kx_ok : kx.dead = false ∧ 0 < kx.secs.length ∧ 2 < kx.secs.length := by decide +kernel
theorem kx_0 : (kx.read 0).getD 9 0 = 2 ∧ (kx.read 0).getD 10 0 = 1 ∧ (kx.read 2).getD 0 0 = 3 := by decide +kernel
theorem ky_ok : ky.dead = false ∧ 2 < ky.secs.length ∧ ky.ops = 0 := by decide +kernel
theorem ky_0 : (ky.read 2).getD 59 0 = 0 ∧ (ky.read 2).getD 63 0 = 4 := by decide +kernel
set_option maxRecDepth 20000 in
set_option maxHeartbeats 4000000 in
theorem diskKnown_walk (w : World) : Calls Try.prog 5 #[] w fun e w' => e = .returned (.bool true) ∧ Below w.heap.size w w' := by
  go_enter Try.func5, Try.ntmps5
  go_wp2_with fail
  refine (awake_any w).mono ?_
  rintro e w0 ⟨rfl, hb0⟩
  have HB0 := hid hb0
  clear hb0
  go_wp2_with fail
  refine (new_no w0 (-1) (by decide)).mono ?_
  rintro e w00 ⟨rfl, rfl⟩
  go_wp2_with fail
  refine (new_no w00 777 (by decide)).mono ?_
  rintro e w0 ⟨rfl, rfl⟩
  go_wp2_with fail
  refine (new3 w0).mono ?_
  rintro e w1 ⟨q, rfl, p, hd, hb, hq, hp⟩
  have HDw1 := hid hd
  have HBw1 := hid (HB0.out.trans (hb.mono HB0.out.size))
  have HQ := hid (Nat.le_trans HB0.out.size hq)
  have HP := hid (Nat.le_trans HB0.out.size hp)
  clear hd hb hq hp HB0
  go_wp2_with fail
  refine (full_one w1 1 (by decide)).mono ?_
  rintro e w2 ⟨g, rfl, hg, hb, -⟩
  have HBw2 := hid (HBw1.out.trans (hb.mono HBw1.out.size))
  have HDw2 := hid (HDw1.out.below hb)
  have HG := hid hg
  clear hg hb
  go_wp2_with fail
  refine (write_any HDw2.out o0 0 _ (full [1]) 64 64 HG.out.row (by decide)).mono ?_
  rintro e w3 ⟨rfl, hd, ho⟩
  rw [a1]
  change DiskAt w3 q p k1 at hd
  have HBw3 := hid (HBw2.out.trans (ho.low HQ.out HP.out HBw2.out.size))
  have HDw3 := hid hd
  clear hd ho HDw1 HBw1 HDw2 HBw2 HG
  go_wp2_with fail
  refine (flush_any HDw3.out o1).mono ?_
  rintro e w4 ⟨rfl, hd, ho⟩
  rw [a2]
  change DiskAt w4 q p k2 at hd
  have HBw4 := hid (HBw3.out.trans (ho.low HQ.out HP.out HBw3.out.size))
  have HDw4 := hid hd
  clear hd ho HDw3 HBw3
  go_wp2_with fail
  refine (full_one w4 2 (by decide)).mono ?_
  rintro e w5 ⟨g, rfl, hg, hb, -⟩
  have HBw5 := hid (HBw4.out.trans (hb.mono HBw4.out.size))
  have HDw5 := hid (HDw4.out.below hb)
  have HG := hid hg
  clear hg hb
  go_wp2_with fail
  refine (write_any HDw5.out o2 0 _ (full [2]) 64 64 HG.out.row (by decide)).mono ?_
  rintro e w6 ⟨rfl, hd, ho⟩
  rw [a3]
  change DiskAt w6 q p k3 at hd
  have HBw6 := hid (HBw5.out.trans (ho.low HQ.out HP.out HBw5.out.size))
  have HDw6 := hid hd
  clear hd ho HDw4 HBw4 HDw5 HBw5 HG
  go_wp2_with fail
  refine (full_one w6 2 (by decide)).mono ?_
  rintro e w7 ⟨g, rfl, hg, hb, -⟩
  have HBw7 := hid (HBw6.out.trans (hb.mono HBw6.out.size))
  have HDw7 := hid (HDw6.out.below hb)
  have HG := hid hg
  clear hg hb
  go_wp2_with fail
  refine (write_any HDw7.out o3 3 _ (full [2]) 64 64 HG.out.row (by decide)).mono ?_
  rintro e w8 ⟨rfl, hd, ho⟩
  rw [a4]
  change DiskAt w8 q p k4 at hd
  have HBw8 := hid (HBw7.out.trans (ho.low HQ.out HP.out HBw7.out.size))
  have HDw8 := hid hd
  clear hd ho HDw6 HBw6 HDw7 HBw7 HG
  go_wp2_with fail
  refine (write_any (HDw8.out.below (below_one w8 (.cells #[.int .u8 1] 5))) o4 1 _ [1] 1 1 (row1 w8 1 (by decide)) rfl).mono ?_
  rintro e w9 ⟨rfl, hd, ho⟩
  rw [a5]
  change DiskAt w9 q p k5 at hd
  have hba := HBw8.out.trans ((below_one w8 (.cells #[.int .u8 1] 5)).mono HBw8.out.size)
  have HBw9 := hid (hba.trans (ho.low HQ.out HP.out hba.size))
  have HDw9 := hid hd
  clear hd ho hba HDw8 HBw8
  go_wp2_with fail
  refine (fuse_any HDw9.out 1 (by decide)).mono ?_
  rintro e w10 ⟨rfl, hd, ho⟩
  change DiskAt w10 q p k6 at hd
  have HBw10 := hid (HBw9.out.trans ((ho.weak (o := some p)).low HQ.out HP.out HBw9.out.size))
  have HDw10 := hid hd
  clear hd ho HDw9 HBw9
  go_wp2_with fail
  refine (full_one w10 3 (by decide)).mono ?_
  rintro e w11 ⟨g, rfl, hg, hb, -⟩
  have HBw11 := hid (HBw10.out.trans (hb.mono HBw10.out.size))
  have HDw11 := hid (HDw10.out.below hb)
  have HG := hid hg
  clear hg hb
  go_wp2_with fail
  refine (write_any HDw11.out o6 2 _ (full [3]) 64 64 HG.out.row (by decide)).mono ?_
  rintro e w12 ⟨rfl, hd, ho⟩
  rw [a7]
  change DiskAt w12 q p k7 at hd
  have HBw12 := hid (HBw11.out.trans (ho.low HQ.out HP.out HBw11.out.size))
  have HDw12 := hid hd
  clear hd ho HDw10 HBw10 HDw11 HBw11 HG
  go_wp2_with fail
  refine (flush_any HDw12.out o7).mono ?_
  rintro e w13 ⟨rfl, hd, ho⟩
  rw [a8]
  change DiskAt w13 q p k8 at hd
  have HBw13 := hid (HBw12.out.trans (ho.low HQ.out HP.out HBw12.out.size))
  have HDw13 := hid hd
  clear hd ho HDw12 HBw12
  go_wp2_with fail
  refine (read_dead HDw13.out k8_dead.1 0).mono ?_
  rintro e w14 ⟨rfl, rfl⟩
  go_wp2_with fail
  have hba := below_one w14 (.cells #[.int .u8 43, .int .u8 1] 5)
  refine (crash_any (HDw13.out.below hba) _ [43, 1] 2 2 (row_new w14 [43, 1] (by decide) 5 (0, 0)) rfl (by decide)).mono ?_
  rintro e w15 ⟨x, rfl, xp, hx, hb, hxq, hxp⟩
  change DiskAt w15 x xp kx at hx
  have hbb := hba.trans (hb.mono hba.size)
  have HBw15 := hid (HBw13.out.trans (hbb.mono HBw13.out.size))
  have HDw15 := hid (HDw13.out.below hbb)
  have HX := hid hx
  clear hba hx hb hxq hxp hbb HBw13 HDw13
  go_wp2_with fail
  refine (read0 HX.out kx_ok.1 kx_ok.2.1).mono ?_
  rintro e w16 ⟨g1, rfl, hg, hb, -⟩
  have HBw16 := hid (HBw15.out.trans (hb.mono HBw15.out.size))
  have HDw16 := hid (HDw15.out.below hb)
  have HX16 := hid (HX.out.below hb)
  have HG1 := hid hg
  have HN1 := hid (read_len HX.out kx_ok.2.1)
  clear hg hb HX HBw15 HDw15
  go_wp2_with fail
  refine (read2 HX16.out kx_ok.1 kx_ok.2.2).mono ?_
  rintro e w17 ⟨g2, rfl, hg, hb, -⟩
  have HBw17 := hid (HBw16.out.trans (hb.mono HBw16.out.size))
  have HDw17 := hid (HDw16.out.below hb)
  have HG1w17 := hid (HG1.out.below hb)
  have HG2w17 := hid hg
  have HN2 := hid (read_len HX16.out kx_ok.2.2)
  clear hg hb HX16 HBw16 HDw16 HG1
  go_wp2_with fail
  have hba := below_one w17 (.cells #[.int .u8 1, .int .u8 2, .int .u8 3, .int .u8 4, .int .u8 5] 5)
  refine (spoil_any (HDw17.out.below hba) 2 60 _ [1, 2, 3, 4, 5] 5 5 (row_new w17 [1, 2, 3, 4, 5] (by decide) 5 (0, 0)) rfl (by decide) (fun v hv => by have := HDw17.out.lt.2; simp at hv; rw [← hv]; show w17.heap.size ≠ p; omega) (by decide)).mono ?_
  rintro e w18 ⟨rfl, hd, ho⟩
  rw [a9]
  change DiskAt w18 q p k9 at hd
  have hb1 := HBw17.out.trans (hba.mono HBw17.out.size)
  have HBw18 := hid (hb1.trans (ho.low HQ.out HP.out hb1.size))
  have HDw18 := hid hd
  have HG1w18 := hid ((HG1w17.out.below hba).kept_disk (HDw17.out.below hba) ho)
  have HG2w18 := hid ((HG2w17.out.below hba).kept_disk (HDw17.out.below hba) ho)
  clear hd ho hba hb1 HDw17 HBw17 HG1w17 HG2w17
  go_wp2_with fail
  have hba := below_one w18 (.cells #[.int .u8 1, .int .u8 2, .int .u8 3, .int .u8 4] 5)
  refine (spoil_any (HDw18.out.below hba) 2 60 _ [1, 2, 3, 4] 4 4 (row_new w18 [1, 2, 3, 4] (by decide) 5 (0, 0)) rfl (by decide) (fun v hv => by have := HDw18.out.lt.2; simp at hv; rw [← hv]; show w18.heap.size ≠ p; omega) (by decide)).mono ?_
  rintro e w19 ⟨rfl, hd, ho⟩
  rw [a10]
  change DiskAt w19 q p k10 at hd
  have hb1 := HBw18.out.trans (hba.mono HBw18.out.size)
  have HBw19 := hid (hb1.trans (ho.low HQ.out HP.out hb1.size))
  have HDw19 := hid hd
  have HG1w19 := hid ((HG1w18.out.below hba).kept_disk (HDw18.out.below hba) ho)
  have HG2w19 := hid ((HG2w18.out.below hba).kept_disk (HDw18.out.below hba) ho)
  clear hd ho hba hb1 HDw18 HBw18 HG1w18 HG2w18
  go_wp2_with fail
  have hba := below_one w19 (.cells #[.int .u8 1] 5)
  refine (spoil_any (HDw19.out.below hba) (-1) 0 _ [1] 1 1 (row_new w19 [1] (by decide) 5 (0, 0)) rfl (by decide) (fun v hv => by have := HDw19.out.lt.2; simp at hv; rw [← hv]; show w19.heap.size ≠ p; omega) (by decide)).mono ?_
  rintro e w20 ⟨rfl, hd, ho⟩
  rw [a11]
  change DiskAt w20 q p k11 at hd
  have hb1 := HBw19.out.trans (hba.mono HBw19.out.size)
  have HBw20 := hid (hb1.trans (ho.low HQ.out HP.out hb1.size))
  have HDw20 := hid hd
  have HG1w20 := hid ((HG1w19.out.below hba).kept_disk (HDw19.out.below hba) ho)
  have HG2w20 := hid ((HG2w19.out.below hba).kept_disk (HDw19.out.below hba) ho)
  clear hd ho hba hb1 HDw19 HBw19 HG1w19 HG2w19
  go_wp2_with fail
  refine (crash_one HDw20.out 0 (by decide)).mono ?_
  rintro e w21 ⟨y, rfl, yp, hy, hb, -, -⟩
  change DiskAt w21 y yp ky at hy
  have HBw21 := hid (HBw20.out.trans (hb.mono HBw20.out.size))
  have HDw21 := hid (HDw20.out.below hb)
  have HY := hid hy
  have HG1w21 := hid (HG1w20.out.below hb)
  have HG2w21 := hid (HG2w20.out.below hb)
  clear hy hb HDw20 HBw20 HG1w20 HG2w20
  go_wp2_with fail
  refine (read2 HY.out ky_ok.1 ky_ok.2.1).mono ?_
  rintro e w22 ⟨g3, rfl, hg, hb, -⟩
  have HBw22 := hid (HBw21.out.trans (hb.mono HBw21.out.size))
  have HDw22 := hid (HDw21.out.below hb)
  have HY22 := hid (HY.out.below hb)
  have HN3 := hid (read_len HY.out ky_ok.2.1)
  have h1 := (HG1w21.out.below hb).cell 9 (by rw [HN1.out]; decide)
  have h2 := (HG1w21.out.below hb).cell 10 (by rw [HN1.out]; decide)
  have h3 := (HG2w21.out.below hb).cell 0 (by rw [HN2.out]; decide)
  have h4 := hg.cell 59 (by rw [HN3.out]; decide)
  have h5 := hg.cell 63 (by rw [HN3.out]; decide)
  rw [kx_0.1] at h1
  rw [kx_0.2.1] at h2
  rw [kx_0.2.2] at h3
  rw [ky_0.1] at h4
  rw [ky_0.2] at h5
  clear hg hb HBw21 HDw21 HY HG1w21 HG2w21
  go_wp2_with fail
  refine (dead_any HDw22.out).mono ?_
  rintro e w23 ⟨rfl, rfl⟩
  rw [k8_dead.2.1]
  go_wp2_with fail
  refine (ops_any HDw22.out).mono ?_
  rintro e w24 ⟨rfl, rfl⟩
  rw [k8_dead.2.2]
  go_wp2_with fail
  refine (dead_any HY22.out).mono ?_
  rintro e w25 ⟨rfl, rfl⟩
  rw [ky_ok.1]
  go_wp2_with fail
  refine (ops_any HY22.out).mono ?_
  rintro e w26 ⟨rfl, rfl⟩
  rw [ky_ok.2.2]
  go_wp2_with fail
  go_ret
  exact ⟨rfl, HBw22.out⟩
set_option maxRecDepth 100000 in
theorem diskKnown_lifted (os : Os) (started : os.Started) (H : Type) (enc : TypeId × Value → H) :
    ReturnsInHanded {} Try.checked os 5 .any (Rows.diskKnownSpec.pre6 enc Try.prog Try.f5 Rows.diskKnownRow.domain false) (Rows.diskKnownSpec.post enc Try.prog Try.f5 false true false false) := by
  refine returnsInHanded_of_change (C := Try.checked) own started (by kernel_rfl) Try.func5
    (ChangeSpec.witness6 (enc := enc) (C := Try.checked) false ⟨#[], #[], []⟩ 8 (by kernel_rfl) (by kernel_rfl) (by kernel_rfl) (by kernel_rfl)) ?_
  intro W base args ds gs before hval0 hW _ _
  have hW' := hW
  obtain ⟨p, q, hA0, hV, rfl, hfz, hnd⟩ := hW
  have hA : DataW.TrodAll enc Try.prog W 0 (fun _ => true) true Try.f5.params.toList args.toList ds p := hA0
  rw [Try.params5] at hA
  obtain ⟨rfl, rfl, rfl⟩ := trodAll_none hA
  obtain ⟨rfl, rfl⟩ := trodVars_none hV
  clear hA0 hval0
  refine (diskKnown_walk W).mono fun e W' ⟨he, bel⟩ => ?_
  subst he
  exact ⟨_, rfl, _, _, _, [], _, [], hW', trodAll_mk1 (shut_bool Try.underlying4 _), trodAll_mk0, rfl, bel.frame _, fun h => by cases h⟩

theorem diskKnown_over : Rows.diskKnownRow.holds Try.pinned (OpenSpec.ofChange Rows.diskKnownSpec) :=
  OpenClaim.holds_of_wide 5 Try.f5 rfl rfl rfl rfl rfl rfl rfl ⟨rfl, rfl, rfl, rfl, rfl⟩ rfl rfl rfl rfl rfl (by kernel_rfl) Try.func5 (by kernel_rfl)
    (of_decide_eq_true (by kernel_rfl)) (by unfold Func.isWrapper; first | (rw [if_pos (by decide +kernel)]; kernel_rfl) | (rw [if_neg (by decide +kernel)]; exact ⟨rfl, rfl⟩))
    (fun os started H enc _ => diskKnown_lifted os started H enc)

theorem diskKnown_holds : Rows.DiskKnownSaid := diskKnown_over
#print axioms diskKnown_holds
end Go.Proofs.Ytoniolndoidkcaa
