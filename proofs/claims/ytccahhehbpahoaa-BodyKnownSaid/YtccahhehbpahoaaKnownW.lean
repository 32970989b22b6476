/- BodyKnown, as it is walked: bodies by hand: cut in the middle, over several, at the limit, with pieces that are not there. No condition. -/
import Derived.Test.YtccahhehbpahoaaLaw
namespace Go.Proofs.Ytccahhehbpahoaa
open Go.ChangeShapes Go.WideShapes Go.ChangeAt Go.RowKit
set_option maxRecDepth 4000
set_option linter.unusedVariables false
set_option linter.unusedSimpArgs false
attribute [local go_sem ↓] Go.wp_at_zero Go.wp_at_succ
theorem kn_w0 : writeB 0 [] 0 [⟨0, 10, 1, 0⟩] = (10, [⟨0, 10, 1, 0⟩], 0) := by kernel_rfl
theorem kn_w1 : writeB 10 [⟨0, 10, 1, 0⟩] 3 [⟨0, 4, 2, 5⟩] = (10, [⟨0, 3, 1, 0⟩, ⟨3, 4, 2, 5⟩, ⟨7, 3, 1, 7⟩], 0) := by kernel_rfl
theorem kn_w2 : truncB 10 [⟨0, 3, 1, 0⟩, ⟨3, 4, 2, 5⟩, ⟨7, 3, 1, 7⟩] 8 = (8, [⟨0, 3, 1, 0⟩, ⟨3, 4, 2, 5⟩, ⟨7, 1, 1, 7⟩], 0) := by kernel_rfl
theorem kn_w3 : writeB 10 [⟨0, 10, 1, 0⟩] (-1) [] = (0, [], 9) := by kernel_rfl
theorem kn_w4 : writeB 10 [⟨0, 10, 1, 0⟩] 1099511627767 [⟨0, 10, 1, 0⟩] = (0, [], 9) := by kernel_rfl
theorem kn_w5 : writeB 10 [⟨0, 10, 1, 0⟩] 1099511627766 [⟨0, 10, 1, 0⟩] = (1099511627776, [⟨0, 10, 1, 0⟩, ⟨1099511627766, 10, 1, 0⟩], 0) := by kernel_rfl
theorem kn_w6 : writeB 10 [⟨0, 10, 1, 0⟩] 0 [⟨0, 0, 1, 0⟩] = (0, [], 1) := by kernel_rfl
theorem kn_w7 : writeB 10 [⟨0, 10, 1, 0⟩] 0 [⟨0, 60, 1, 5⟩] = (0, [], 1) := by kernel_rfl
theorem kn_w8 : truncB 10 [⟨0, 10, 1, 0⟩] (-1) = (0, [], 9) := by kernel_rfl
theorem kn_w9 : writeB 10 [⟨0, 10, 1, 0⟩] 50 [] = (10, [⟨0, 10, 1, 0⟩], 0) := by kernel_rfl
theorem kn_p1 : put ⟨[], 0⟩ [48, 49, 50, 51, 52, 53, 54, 55, 56, 57] = ((1, true, 0), ⟨[(1, [48, 49, 50, 51, 52, 53, 54, 55, 56, 57])], 1⟩) := by rw [put_none (by decide) (by simp [byText])]; rfl
theorem kn_p2 : put ⟨[(1, [48, 49, 50, 51, 52, 53, 54, 55, 56, 57])], 1⟩ [49, 50, 51, 52, 53, 54, 55, 56] = ((2, true, 0), ⟨[(1, [48, 49, 50, 51, 52, 53, 54, 55, 56, 57]), (2, [49, 50, 51, 52, 53, 54, 55, 56])], 2⟩) := by rw [put_none (by decide) (by simp [byText])]; rfl
theorem kn_r40 : readB [(1, [48, 49, 50, 51, 52, 53, 54, 55, 56, 57])] 10 [⟨0, 3, 1, 0⟩, ⟨3, 4, 2, 5⟩, ⟨7, 3, 1, 7⟩] 0 10 = ([], 13) := by kernel_rfl
theorem kn_r41 : readB [(1, [48, 49, 50, 51, 52, 53, 54, 55, 56, 57])] 10 [⟨0, 10, 1, 0⟩] 4 100 = ([52, 53, 54, 55, 56, 57], 0) := by kernel_rfl
theorem kn_r42 : readB [(1, [48, 49, 50, 51, 52, 53, 54, 55, 56, 57])] 10 [⟨0, 10, 1, 0⟩] 0 4097 = ([], 1) := by kernel_rfl
theorem kn_r43 : readB [(1, [48, 49, 50, 51, 52, 53, 54, 55, 56, 57])] 10 [⟨0, 10, 1, 0⟩] (-1) 1 = ([], 1) := by kernel_rfl
theorem kn_r44 : readB [(1, [48, 49, 50, 51, 52, 53, 54, 55, 56, 57])] 10 [⟨0, 10, 1, 0⟩] 10 5 = ([], 0) := by kernel_rfl
theorem kn_r46 : readB [(1, [48, 49, 50, 51, 52, 53, 54, 55, 56, 57]), (2, [49, 50, 51, 52, 53, 54, 55, 56])] 10 [⟨0, 3, 1, 0⟩, ⟨3, 4, 2, 5⟩, ⟨7, 3, 1, 7⟩] 0 10 = ([], 13) := by kernel_rfl
theorem POwnText.below {w w' : World} {b : Nat} {v : Value} {n : Nat} {xs : List Value} (h : w.ownsRow b 5 1 v n xs) (hb : Below w.heap.size w w') : w'.ownsRow b 5 1 v n xs :=
  owns_keep h fun k cur _ _ hk => (hb.block k (lt_of_some hk)).trans hk
set_option maxRecDepth 20000 in
set_option maxHeartbeats 8000000 in
theorem bodyKnown_all {w : World} : Calls Try.prog 5 #[] w fun e w' => e = .returned (.bool true) ∧ Below w.heap.size w w' := by
  have kc := fun (w : World) => Lib.run_convert_bytes_const (P := Try.prog) w 54 5 #[.int .u8 48, .int .u8 49, .int .u8 50, .int .u8 51, .int .u8 52, .int .u8 53, .int .u8 54, .int .u8 55, .int .u8 56, .int .u8 57] 10 10 Try.underlying54 Try.underlying5
  have kd := fun (w : World) => Lib.run_convert_bytes_const (P := Try.prog) w 54 5 #[.int .u8 49, .int .u8 50, .int .u8 51, .int .u8 52, .int .u8 53, .int .u8 54, .int .u8 55, .int .u8 56] 8 8 Try.underlying54 Try.underlying5
  simp only [List.size_toArray, List.length_cons, List.length_nil] at kc kd
  go_enter Try.func5, Try.ntmps5
  go_wp2_with fail
  refine (awake_any w).mono ?_
  rintro e w0 ⟨rfl, hb0⟩
  have hal0 := (Below.refl w0.heap.size w0).alloc (Nat.le_refl _) (.cells #[.int .i64 0, .int .i64 10, .int .i64 1, .int .i64 0] 58)
  have HR1 := hid (prow_one (e := 58) (p := ⟨0, 10, 1, 0⟩) (heap_alloc_new w0 (.cells #[.int .i64 0, .int .i64 10, .int .i64 1, .int .i64 0] 58)))
  have HB := hid (hb0.trans (hal0.mono hb0.size))
  clear hb0 hal0
  go_wp2_with fail
  generalize w0.alloc (.cells #[.int .i64 0, .int .i64 10, .int .i64 1, .int .i64 0] 58) = w1 at *
  obtain ⟨a1, ha1⟩ : ∃ a1, some (⟨w0.heap.size, 0, none⟩ : Addr) = a1 := ⟨_, rfl⟩
  have HZ1 : Hid (a1 = none → 1 = 0) := fun h => by rw [← ha1] at h; simp at h
  rw [ha1] at HR1 ⊢
  clear ha1
  have k0 := write_any (w := w1) 0 none [] 0 0 rfl (fun _ => rfl) (.inl rfl) (by decide) 0 (by decide) (by decide) a1 [⟨0, 10, 1, 0⟩] 1 1 rfl HZ1.out HR1.out (by decide)
  rw [kn_w0] at k0
  refine k0.mono ?_
  rintro e v0 ⟨hg0, hb0⟩
  obtain ⟨a_a, c_a, rfl, -, h0, z0⟩ := hg0.at_
  simp only [List.length_cons, List.length_nil, Nat.zero_add, Nat.reduceAdd] at h0 z0 ⊢
  have hc0 := (Below.refl v0.heap.size v0).alloc (Nat.le_refl _) (.cells #[.int .i64 10, .slice a_a 1 c_a] 29)
  have hd0 : Below w1.heap.size w1 (v0.alloc (.cells #[.int .i64 10, .slice a_a 1 c_a] 29)) := hb0.trans (hc0.mono hb0.size)
  replace HR1 := hid (HR1.out.below hd0)
  replace HB := hid (HB.out.trans (hd0.mono HB.out.size))
  have HX_a := hid (Bx.new 29 v0 10 (.slice a_a 1 c_a))
  have HP_a := hid (h0.below hc0)
  have HZ_a := hid z0
  clear hg0 hb0 h0 z0 hc0 hd0 k0
  obtain ⟨x0, x1⟩ := HX_a.out.cells
  have hs0 : (v0.alloc (.cells #[.int .i64 10, .slice a_a 1 c_a] 29)).heap.size = v0.heap.size + 1 := by simp
  have HS := hid hs0
  clear hs0
  go_wp2_with fail
  generalize v0.alloc (.cells #[.int .i64 10, .slice a_a 1 c_a] 29) = u0 at *
  obtain ⟨y_a, hy0⟩ : ∃ y, v0.heap.size = y := ⟨_, rfl⟩
  rw [hy0] at HX_a HS ⊢
  clear hy0
  have hal1 := (Below.refl u0.heap.size u0).alloc (Nat.le_refl _) (.cells #[.int .i64 0, .int .i64 4, .int .i64 2, .int .i64 5] 58)
  have hp1 := prow_one (e := 58) (p := ⟨0, 4, 2, 5⟩) (heap_alloc_new u0 (.cells #[.int .i64 0, .int .i64 4, .int .i64 2, .int .i64 5] 58))
  rw [HS.out] at hp1
  have k1 := write_any (w := u0.alloc (.cells #[.int .i64 0, .int .i64 4, .int .i64 2, .int .i64 5] 58)) 10 a_a [⟨0, 10, 1, 0⟩] 1 c_a rfl HZ_a.out (HP_a.out.below hal1) (by decide) 3 (by decide) (by decide) (some ⟨y_a + 1, 0, none⟩) [⟨0, 4, 2, 5⟩] 1 1 rfl (by simp) hp1 (by decide)
  rw [kn_w1] at k1
  refine k1.mono ?_
  rintro e v1 ⟨hg1, hb1⟩
  obtain ⟨a_b, c_b, rfl, -, h1, z1⟩ := hg1.at_
  simp only [List.length_cons, List.length_nil, Nat.zero_add, Nat.reduceAdd] at h1 z1 ⊢
  have hc1 := (Below.refl v1.heap.size v1).alloc (Nat.le_refl _) (.cells #[.int .i64 10, .slice a_b 3 c_b] 29)
  have hd1 : Below u0.heap.size u0 (v1.alloc (.cells #[.int .i64 10, .slice a_b 3 c_b] 29)) := (hal1.trans (hb1.mono hal1.size)).trans (hc1.mono (Nat.le_trans hal1.size hb1.size))
  replace HR1 := hid (HR1.out.below hd1)
  replace HX_a := hid (HX_a.out.below hd1)
  replace HP_a := hid (HP_a.out.below hd1)
  replace HB := hid (HB.out.trans (hd1.mono HB.out.size))
  have HX_b := hid (Bx.new 29 v1 10 (.slice a_b 3 c_b))
  have HP_b := hid (h1.below hc1)
  have HZ_b := hid z1
  clear hg1 hb1 h1 z1 hc1 hd1 k1 hal1 hp1 x0 x1
  obtain ⟨x0, x1⟩ := HX_b.out.cells
  clear HS
  have hs1 : (v1.alloc (.cells #[.int .i64 10, .slice a_b 3 c_b] 29)).heap.size = v1.heap.size + 1 := by simp
  have HS := hid hs1
  clear hs1
  go_wp2_with fail
  generalize v1.alloc (.cells #[.int .i64 10, .slice a_b 3 c_b] 29) = u1 at *
  obtain ⟨y_b, hy1⟩ : ∃ y, v1.heap.size = y := ⟨_, rfl⟩
  rw [hy1] at HX_b HS ⊢
  clear hy1
  have k2 := trunc_any (w := u1) 10 a_b [⟨0, 3, 1, 0⟩, ⟨3, 4, 2, 5⟩, ⟨7, 3, 1, 7⟩] 3 c_b rfl HP_b.out (by decide) 8 (by decide) (by decide)
  rw [kn_w2] at k2
  refine k2.mono ?_
  rintro e v2 ⟨hg2, hb2⟩
  obtain ⟨a_c, c_c, rfl, -, h2, z2⟩ := hg2.at_
  simp only [List.length_cons, List.length_nil, Nat.zero_add, Nat.reduceAdd] at h2 z2 ⊢
  have hc2 := (Below.refl v2.heap.size v2).alloc (Nat.le_refl _) (.cells #[.int .i64 8, .slice a_c 3 c_c] 29)
  have hd2 : Below u1.heap.size u1 (v2.alloc (.cells #[.int .i64 8, .slice a_c 3 c_c] 29)) := hb2.trans (hc2.mono hb2.size)
  replace HR1 := hid (HR1.out.below hd2)
  replace HX_a := hid (HX_a.out.below hd2)
  replace HP_a := hid (HP_a.out.below hd2)
  replace HX_b := hid (HX_b.out.below hd2)
  replace HP_b := hid (HP_b.out.below hd2)
  replace HB := hid (HB.out.trans (hd2.mono HB.out.size))
  have HX_c := hid (Bx.new 29 v2 8 (.slice a_c 3 c_c))
  have HP_c := hid (h2.below hc2)
  have HZ_c := hid z2
  clear hg2 hb2 h2 z2 hc2 hd2 k2 x0 x1
  obtain ⟨x0, x1⟩ := HX_a.out.cells
  clear HS
  have hs2 : (v2.alloc (.cells #[.int .i64 8, .slice a_c 3 c_c] 29)).heap.size = v2.heap.size + 1 := by simp
  have HS := hid hs2
  clear hs2
  go_wp2_with fail
  generalize v2.alloc (.cells #[.int .i64 8, .slice a_c 3 c_c] 29) = u2 at *
  obtain ⟨y_c, hy2⟩ : ∃ y, v2.heap.size = y := ⟨_, rfl⟩
  rw [hy2] at HX_c HS ⊢
  clear hy2
  have k3 := write_any (w := u2) 10 a_a [⟨0, 10, 1, 0⟩] 1 c_a rfl HZ_a.out HP_a.out (by decide) (-1) (by decide) (by decide) none [] 0 0 rfl (fun _ => rfl) (.inl rfl) (by decide)
  rw [kn_w3] at k3
  refine k3.mono ?_
  rintro e v3 ⟨hg3, hb3⟩
  obtain ⟨x3a, x3c, rfl, -, h3, z3⟩ := hg3.at_
  simp only [List.length_cons, List.length_nil, Nat.zero_add, Nat.reduceAdd] at h3 z3 ⊢
  have hc3 := (Below.refl v3.heap.size v3).alloc (Nat.le_refl _) (.cells #[.int .i64 0, .slice x3a 0 x3c] 29)
  have hd3 : Below u2.heap.size u2 (v3.alloc (.cells #[.int .i64 0, .slice x3a 0 x3c] 29)) := hb3.trans (hc3.mono hb3.size)
  replace HR1 := hid (HR1.out.below hd3)
  replace HX_a := hid (HX_a.out.below hd3)
  replace HP_a := hid (HP_a.out.below hd3)
  replace HX_b := hid (HX_b.out.below hd3)
  replace HP_b := hid (HP_b.out.below hd3)
  replace HX_c := hid (HX_c.out.below hd3)
  replace HP_c := hid (HP_c.out.below hd3)
  replace HB := hid (HB.out.trans (hd3.mono HB.out.size))
  clear hg3 hb3 h3 z3 hc3 hd3 k3 x0 x1
  obtain ⟨x0, x1⟩ := HX_a.out.cells
  clear HS
  have hs3 : (v3.alloc (.cells #[.int .i64 0, .slice x3a 0 x3c] 29)).heap.size = v3.heap.size + 1 := by simp
  have HS := hid hs3
  clear hs3
  go_wp2_with fail
  generalize v3.alloc (.cells #[.int .i64 0, .slice x3a 0 x3c] 29) = u3 at *
  have k4 := write_any (w := u3) 10 a_a [⟨0, 10, 1, 0⟩] 1 c_a rfl HZ_a.out HP_a.out (by decide) 1099511627767 (by decide) (by decide) a1 [⟨0, 10, 1, 0⟩] 1 1 rfl HZ1.out HR1.out (by decide)
  rw [kn_w4] at k4
  refine k4.mono ?_
  rintro e v4 ⟨hg4, hb4⟩
  obtain ⟨x4a, x4c, rfl, -, h4, z4⟩ := hg4.at_
  simp only [List.length_cons, List.length_nil, Nat.zero_add, Nat.reduceAdd] at h4 z4 ⊢
  have hc4 := (Below.refl v4.heap.size v4).alloc (Nat.le_refl _) (.cells #[.int .i64 0, .slice x4a 0 x4c] 29)
  have hd4 : Below u3.heap.size u3 (v4.alloc (.cells #[.int .i64 0, .slice x4a 0 x4c] 29)) := hb4.trans (hc4.mono hb4.size)
  replace HR1 := hid (HR1.out.below hd4)
  replace HX_a := hid (HX_a.out.below hd4)
  replace HP_a := hid (HP_a.out.below hd4)
  replace HX_b := hid (HX_b.out.below hd4)
  replace HP_b := hid (HP_b.out.below hd4)
  replace HX_c := hid (HX_c.out.below hd4)
  replace HP_c := hid (HP_c.out.below hd4)
  replace HB := hid (HB.out.trans (hd4.mono HB.out.size))
  clear hg4 hb4 h4 z4 hc4 hd4 k4 x0 x1
  obtain ⟨x0, x1⟩ := HX_a.out.cells
  clear HS
  have hs4 : (v4.alloc (.cells #[.int .i64 0, .slice x4a 0 x4c] 29)).heap.size = v4.heap.size + 1 := by simp
  have HS := hid hs4
  clear hs4
  go_wp2_with fail
  generalize v4.alloc (.cells #[.int .i64 0, .slice x4a 0 x4c] 29) = u4 at *
  have k5 := write_any (w := u4) 10 a_a [⟨0, 10, 1, 0⟩] 1 c_a rfl HZ_a.out HP_a.out (by decide) 1099511627766 (by decide) (by decide) a1 [⟨0, 10, 1, 0⟩] 1 1 rfl HZ1.out HR1.out (by decide)
  rw [kn_w5] at k5
  refine k5.mono ?_
  rintro e v5 ⟨hg5, hb5⟩
  obtain ⟨a_d, c_d, rfl, -, h5, z5⟩ := hg5.at_
  simp only [List.length_cons, List.length_nil, Nat.zero_add, Nat.reduceAdd] at h5 z5 ⊢
  have hc5 := (Below.refl v5.heap.size v5).alloc (Nat.le_refl _) (.cells #[.int .i64 1099511627776, .slice a_d 2 c_d] 29)
  have hd5 : Below u4.heap.size u4 (v5.alloc (.cells #[.int .i64 1099511627776, .slice a_d 2 c_d] 29)) := hb5.trans (hc5.mono hb5.size)
  replace HR1 := hid (HR1.out.below hd5)
  replace HX_a := hid (HX_a.out.below hd5)
  replace HP_a := hid (HP_a.out.below hd5)
  replace HX_b := hid (HX_b.out.below hd5)
  replace HP_b := hid (HP_b.out.below hd5)
  replace HX_c := hid (HX_c.out.below hd5)
  replace HP_c := hid (HP_c.out.below hd5)
  replace HB := hid (HB.out.trans (hd5.mono HB.out.size))
  have HX_d := hid (Bx.new 29 v5 1099511627776 (.slice a_d 2 c_d))
  have HP_d := hid (h5.below hc5)
  have HZ_d := hid z5
  clear hg5 hb5 h5 z5 hc5 hd5 k5 x0 x1
  obtain ⟨x0, x1⟩ := HX_a.out.cells
  clear HS
  have hs5 : (v5.alloc (.cells #[.int .i64 1099511627776, .slice a_d 2 c_d] 29)).heap.size = v5.heap.size + 1 := by simp
  have HS := hid hs5
  clear hs5
  go_wp2_with fail
  generalize v5.alloc (.cells #[.int .i64 1099511627776, .slice a_d 2 c_d] 29) = u5 at *
  obtain ⟨y_d, hy5⟩ : ∃ y, v5.heap.size = y := ⟨_, rfl⟩
  rw [hy5] at HX_d HS ⊢
  clear hy5
  have hal6 := (Below.refl u5.heap.size u5).alloc (Nat.le_refl _) (.cells #[.int .i64 0, .int .i64 0, .int .i64 1, .int .i64 0] 58)
  have hp6 := prow_one (e := 58) (p := ⟨0, 0, 1, 0⟩) (heap_alloc_new u5 (.cells #[.int .i64 0, .int .i64 0, .int .i64 1, .int .i64 0] 58))
  rw [HS.out] at hp6
  have k6 := write_any (w := u5.alloc (.cells #[.int .i64 0, .int .i64 0, .int .i64 1, .int .i64 0] 58)) 10 a_a [⟨0, 10, 1, 0⟩] 1 c_a rfl HZ_a.out (HP_a.out.below hal6) (by decide) 0 (by decide) (by decide) (some ⟨y_d + 1, 0, none⟩) [⟨0, 0, 1, 0⟩] 1 1 rfl (by simp) hp6 (by decide)
  rw [kn_w6] at k6
  refine k6.mono ?_
  rintro e v6 ⟨hg6, hb6⟩
  obtain ⟨x6a, x6c, rfl, -, h6, z6⟩ := hg6.at_
  simp only [List.length_cons, List.length_nil, Nat.zero_add, Nat.reduceAdd] at h6 z6 ⊢
  have hc6 := (Below.refl v6.heap.size v6).alloc (Nat.le_refl _) (.cells #[.int .i64 0, .slice x6a 0 x6c] 29)
  have hd6 : Below u5.heap.size u5 (v6.alloc (.cells #[.int .i64 0, .slice x6a 0 x6c] 29)) := (hal6.trans (hb6.mono hal6.size)).trans (hc6.mono (Nat.le_trans hal6.size hb6.size))
  replace HR1 := hid (HR1.out.below hd6)
  replace HX_a := hid (HX_a.out.below hd6)
  replace HP_a := hid (HP_a.out.below hd6)
  replace HX_b := hid (HX_b.out.below hd6)
  replace HP_b := hid (HP_b.out.below hd6)
  replace HX_c := hid (HX_c.out.below hd6)
  replace HP_c := hid (HP_c.out.below hd6)
  replace HX_d := hid (HX_d.out.below hd6)
  replace HP_d := hid (HP_d.out.below hd6)
  replace HB := hid (HB.out.trans (hd6.mono HB.out.size))
  clear hg6 hb6 h6 z6 hc6 hd6 k6 hal6 hp6 x0 x1
  obtain ⟨x0, x1⟩ := HX_a.out.cells
  clear HS
  have hs6 : (v6.alloc (.cells #[.int .i64 0, .slice x6a 0 x6c] 29)).heap.size = v6.heap.size + 1 := by simp
  have HS := hid hs6
  clear hs6
  go_wp2_with fail
  generalize v6.alloc (.cells #[.int .i64 0, .slice x6a 0 x6c] 29) = u6 at *
  have hal7 := (Below.refl u6.heap.size u6).alloc (Nat.le_refl _) (.cells #[.int .i64 0, .int .i64 60, .int .i64 1, .int .i64 5] 58)
  have hp7 := prow_one (e := 58) (p := ⟨0, 60, 1, 5⟩) (heap_alloc_new u6 (.cells #[.int .i64 0, .int .i64 60, .int .i64 1, .int .i64 5] 58))
  rw [HS.out] at hp7
  have k7 := write_any (w := u6.alloc (.cells #[.int .i64 0, .int .i64 60, .int .i64 1, .int .i64 5] 58)) 10 a_a [⟨0, 10, 1, 0⟩] 1 c_a rfl HZ_a.out (HP_a.out.below hal7) (by decide) 0 (by decide) (by decide) (some ⟨v6.heap.size + 1, 0, none⟩) [⟨0, 60, 1, 5⟩] 1 1 rfl (by simp) hp7 (by decide)
  rw [kn_w7] at k7
  refine k7.mono ?_
  rintro e v7 ⟨hg7, hb7⟩
  obtain ⟨x7a, x7c, rfl, -, h7, z7⟩ := hg7.at_
  simp only [List.length_cons, List.length_nil, Nat.zero_add, Nat.reduceAdd] at h7 z7 ⊢
  have hc7 := (Below.refl v7.heap.size v7).alloc (Nat.le_refl _) (.cells #[.int .i64 0, .slice x7a 0 x7c] 29)
  have hd7 : Below u6.heap.size u6 (v7.alloc (.cells #[.int .i64 0, .slice x7a 0 x7c] 29)) := (hal7.trans (hb7.mono hal7.size)).trans (hc7.mono (Nat.le_trans hal7.size hb7.size))
  replace HR1 := hid (HR1.out.below hd7)
  replace HX_a := hid (HX_a.out.below hd7)
  replace HP_a := hid (HP_a.out.below hd7)
  replace HX_b := hid (HX_b.out.below hd7)
  replace HP_b := hid (HP_b.out.below hd7)
  replace HX_c := hid (HX_c.out.below hd7)
  replace HP_c := hid (HP_c.out.below hd7)
  replace HX_d := hid (HX_d.out.below hd7)
  replace HP_d := hid (HP_d.out.below hd7)
  replace HB := hid (HB.out.trans (hd7.mono HB.out.size))
  clear hg7 hb7 h7 z7 hc7 hd7 k7 hal7 hp7 x0 x1
  obtain ⟨x0, x1⟩ := HX_a.out.cells
  clear HS
  have hs7 : (v7.alloc (.cells #[.int .i64 0, .slice x7a 0 x7c] 29)).heap.size = v7.heap.size + 1 := by simp
  have HS := hid hs7
  clear hs7
  go_wp2_with fail
  generalize v7.alloc (.cells #[.int .i64 0, .slice x7a 0 x7c] 29) = u7 at *
  have k8 := trunc_any (w := u7) 10 a_a [⟨0, 10, 1, 0⟩] 1 c_a rfl HP_a.out (by decide) (-1) (by decide) (by decide)
  rw [kn_w8] at k8
  refine k8.mono ?_
  rintro e v8 ⟨hg8, hb8⟩
  obtain ⟨x8a, x8c, rfl, -, h8, z8⟩ := hg8.at_
  simp only [List.length_cons, List.length_nil, Nat.zero_add, Nat.reduceAdd] at h8 z8 ⊢
  have hc8 := (Below.refl v8.heap.size v8).alloc (Nat.le_refl _) (.cells #[.int .i64 0, .slice x8a 0 x8c] 29)
  have hd8 : Below u7.heap.size u7 (v8.alloc (.cells #[.int .i64 0, .slice x8a 0 x8c] 29)) := hb8.trans (hc8.mono hb8.size)
  replace HR1 := hid (HR1.out.below hd8)
  replace HX_a := hid (HX_a.out.below hd8)
  replace HP_a := hid (HP_a.out.below hd8)
  replace HX_b := hid (HX_b.out.below hd8)
  replace HP_b := hid (HP_b.out.below hd8)
  replace HX_c := hid (HX_c.out.below hd8)
  replace HP_c := hid (HP_c.out.below hd8)
  replace HX_d := hid (HX_d.out.below hd8)
  replace HP_d := hid (HP_d.out.below hd8)
  replace HB := hid (HB.out.trans (hd8.mono HB.out.size))
  clear hg8 hb8 h8 z8 hc8 hd8 k8 x0 x1
  obtain ⟨x0, x1⟩ := HX_a.out.cells
  clear HS
  have hs8 : (v8.alloc (.cells #[.int .i64 0, .slice x8a 0 x8c] 29)).heap.size = v8.heap.size + 1 := by simp
  have HS := hid hs8
  clear hs8
  go_wp2_with fail
  generalize v8.alloc (.cells #[.int .i64 0, .slice x8a 0 x8c] 29) = u8 at *
  have k9 := write_any (w := u8) 10 a_a [⟨0, 10, 1, 0⟩] 1 c_a rfl HZ_a.out HP_a.out (by decide) 50 (by decide) (by decide) none [] 0 0 rfl (fun _ => rfl) (.inl rfl) (by decide)
  rw [kn_w9] at k9
  refine k9.mono ?_
  rintro e v9 ⟨hg9, hb9⟩
  obtain ⟨a_f, c_f, rfl, -, h9, z9⟩ := hg9.at_
  simp only [List.length_cons, List.length_nil, Nat.zero_add, Nat.reduceAdd] at h9 z9 ⊢
  have hc9 := (Below.refl v9.heap.size v9).alloc (Nat.le_refl _) (.cells #[.int .i64 10, .slice a_f 1 c_f] 29)
  have hd9 : Below u8.heap.size u8 (v9.alloc (.cells #[.int .i64 10, .slice a_f 1 c_f] 29)) := hb9.trans (hc9.mono hb9.size)
  replace HR1 := hid (HR1.out.below hd9)
  replace HX_a := hid (HX_a.out.below hd9)
  replace HP_a := hid (HP_a.out.below hd9)
  replace HX_b := hid (HX_b.out.below hd9)
  replace HP_b := hid (HP_b.out.below hd9)
  replace HX_c := hid (HX_c.out.below hd9)
  replace HP_c := hid (HP_c.out.below hd9)
  replace HX_d := hid (HX_d.out.below hd9)
  replace HP_d := hid (HP_d.out.below hd9)
  replace HB := hid (HB.out.trans (hd9.mono HB.out.size))
  have HX_f := hid (Bx.new 29 v9 10 (.slice a_f 1 c_f))
  have HP_f := hid (h9.below hc9)
  have HZ_f := hid z9
  clear hg9 hb9 h9 z9 hc9 hd9 k9 x0 x1
  clear HS
  have hs9 : (v9.alloc (.cells #[.int .i64 10, .slice a_f 1 c_f] 29)).heap.size = v9.heap.size + 1 := by simp
  have HS := hid hs9
  clear hs9
  go_wp2_with fail
  generalize v9.alloc (.cells #[.int .i64 10, .slice a_f 1 c_f] 29) = u9 at *
  obtain ⟨y_f, hy9⟩ : ∃ y, v9.heap.size = y := ⟨_, rfl⟩
  rw [hy9] at HX_f HS ⊢
  clear hy9
  have hck0 := CkAt.new (u9.heap.size + 1) u9
  have hbk := (Below.refl u9.heap.size u9).alloc (Nat.le_refl _) (.cells #[.map none, .map none, .int .i64 0] 81)
  have HBC := hid hbk
  have HCK := hid hck0
  have HQS : Hid (u9.heap.size + 1 ≤ (u9.alloc (.cells #[.map none, .map none, .int .i64 0] 81)).heap.size) := by show _ ≤ _; simp
  clear hck0 hbk
  refine new_any.mono ?_
  rintro e w30 ⟨rfl, rfl⟩
  generalize u9.alloc (.cells #[.map none, .map none, .int .i64 0] 81) = w30 at *
  obtain ⟨qc, hqc⟩ : ∃ qc, u9.heap.size = qc := ⟨_, rfl⟩
  rw [hqc] at HCK HQS ⊢
  have HQC := hid hqc
  clear hqc
  go_wp2_with fail
  have hb31 : Below w30.heap.size w30 (w30.alloc (.cells #[.int .u8 48, .int .u8 49, .int .u8 50, .int .u8 51, .int .u8 52, .int .u8 53, .int .u8 54, .int .u8 55, .int .u8 56, .int .u8 57] 5 (10, 11))) := (Below.refl _ w30).alloc (Nat.le_refl _) _
  have k31 := put_any (HCK.out.below hb31) _ [48, 49, 50, 51, 52, 53, 54, 55, 56, 57] 10 10 rfl (row_new w30 [48, 49, 50, 51, 52, 53, 54, 55, 56, 57] (by decide) 5 (10, 11)) (by decide) (by decide) (Nat.le_trans HQS.out hb31.size)
  rw [kn_p1] at k31
  refine k31.mono ?_
  rintro e w31 ⟨rfl, hck31, hch31⟩
  have HBC2 := hid ((HBC.out.trans (hb31.mono HBC.out.size)).trans (hch31.below (by rw [HQC.out]; exact Nat.le_refl _) (by rw [HQC.out]; exact Nat.le_succ _) (Nat.le_trans HBC.out.size hb31.size)))
  have HCK2 := hid hck31
  have HQS2 := hid (Nat.le_trans (Nat.le_trans HQS.out hb31.size) hch31.size)
  clear k31 hb31 hck31 hch31 HCK HBC HQS
  obtain ⟨x0, x1⟩ := (HX_b.out.below HBC2.out).cells
  go_wp2_with fail
  have k40 := read_any HCK2.out 10 a_b [⟨0, 3, 1, 0⟩, ⟨3, 4, 2, 5⟩, ⟨7, 3, 1, 7⟩] 3 c_b rfl (HP_b.out.below HBC2.out) (by decide) 0 10 (by decide) (by decide) (by decide) (by decide)
  rw [kn_r40] at k40
  refine k40.mono ?_
  rintro e w40 ⟨hg40, hb40⟩
  obtain ⟨vv40, he40, ho40, hl40⟩ := hg40
  obtain ⟨ra40, rc40, hv40, -⟩ := row_of_owns ho40 hl40
  simp only [List.length_cons, List.length_nil, Nat.zero_add, Nat.reduceAdd] at hv40 ho40
  subst hv40 he40
  have HBC40 := hid (HBC2.out.trans (hb40.mono HBC2.out.size))
  have HCK40 := hid (HCK2.out.below hb40)
  clear k40 x0 x1
  have HSZ40 : Hid (qc + 1 ≤ w40.heap.size) := Nat.le_trans HQS2.out hb40.size
  clear ho40 hl40 hb40
  obtain ⟨x0, x1⟩ := (HX_a.out.below HBC40.out).cells
  go_wp2_with fail
  have k41 := read_any HCK40.out 10 a_a [⟨0, 10, 1, 0⟩] 1 c_a rfl (HP_a.out.below HBC40.out) (by decide) 4 100 (by decide) (by decide) (by decide) (by decide)
  rw [kn_r41] at k41
  refine k41.mono ?_
  rintro e w41 ⟨hg41, hb41⟩
  obtain ⟨vv41, he41, ho41, hl41⟩ := hg41
  obtain ⟨ra41, rc41, hv41, -⟩ := row_of_owns ho41 hl41
  simp only [List.length_cons, List.length_nil, Nat.zero_add, Nat.reduceAdd] at hv41 ho41
  subst hv41 he41
  have HBC41 := hid (HBC40.out.trans (hb41.mono HBC40.out.size))
  have HCK41 := hid (HCK40.out.below hb41)
  clear k41 x0 x1
  have HSZ41 : Hid (qc + 1 ≤ w41.heap.size) := Nat.le_trans HSZ40.out hb41.size
  have HTX := hid ho41
  clear ho41 hl41 hb41
  obtain ⟨x0, x1⟩ := (HX_a.out.below HBC41.out).cells
  go_wp2_with fail
  have k42 := read_any HCK41.out 10 a_a [⟨0, 10, 1, 0⟩] 1 c_a rfl (HP_a.out.below HBC41.out) (by decide) 0 4097 (by decide) (by decide) (by decide) (by decide)
  rw [kn_r42] at k42
  refine k42.mono ?_
  rintro e w42 ⟨hg42, hb42⟩
  obtain ⟨vv42, he42, ho42, hl42⟩ := hg42
  obtain ⟨ra42, rc42, hv42, -⟩ := row_of_owns ho42 hl42
  simp only [List.length_cons, List.length_nil, Nat.zero_add, Nat.reduceAdd] at hv42 ho42
  subst hv42 he42
  have HBC42 := hid (HBC41.out.trans (hb42.mono HBC41.out.size))
  have HCK42 := hid (HCK41.out.below hb42)
  clear k42 x0 x1
  have HSZ42 : Hid (qc + 1 ≤ w42.heap.size) := Nat.le_trans HSZ41.out hb42.size
  replace HTX := hid (POwnText.below HTX.out hb42)
  clear ho42 hl42 hb42
  obtain ⟨x0, x1⟩ := (HX_a.out.below HBC42.out).cells
  go_wp2_with fail
  have k43 := read_any HCK42.out 10 a_a [⟨0, 10, 1, 0⟩] 1 c_a rfl (HP_a.out.below HBC42.out) (by decide) (-1) 1 (by decide) (by decide) (by decide) (by decide)
  rw [kn_r43] at k43
  refine k43.mono ?_
  rintro e w43 ⟨hg43, hb43⟩
  obtain ⟨vv43, he43, ho43, hl43⟩ := hg43
  obtain ⟨ra43, rc43, hv43, -⟩ := row_of_owns ho43 hl43
  simp only [List.length_cons, List.length_nil, Nat.zero_add, Nat.reduceAdd] at hv43 ho43
  subst hv43 he43
  have HBC43 := hid (HBC42.out.trans (hb43.mono HBC42.out.size))
  have HCK43 := hid (HCK42.out.below hb43)
  clear k43 x0 x1
  have HSZ43 : Hid (qc + 1 ≤ w43.heap.size) := Nat.le_trans HSZ42.out hb43.size
  replace HTX := hid (POwnText.below HTX.out hb43)
  clear ho43 hl43 hb43
  obtain ⟨x0, x1⟩ := (HX_a.out.below HBC43.out).cells
  go_wp2_with fail
  have k44 := read_any HCK43.out 10 a_a [⟨0, 10, 1, 0⟩] 1 c_a rfl (HP_a.out.below HBC43.out) (by decide) 10 5 (by decide) (by decide) (by decide) (by decide)
  rw [kn_r44] at k44
  refine k44.mono ?_
  rintro e w44 ⟨hg44, hb44⟩
  obtain ⟨vv44, he44, ho44, hl44⟩ := hg44
  obtain ⟨ra44, rc44, hv44, -⟩ := row_of_owns ho44 hl44
  simp only [List.length_cons, List.length_nil, Nat.zero_add, Nat.reduceAdd] at hv44 ho44
  subst hv44 he44
  have HBC44 := hid (HBC43.out.trans (hb44.mono HBC43.out.size))
  have HCK44 := hid (HCK43.out.below hb44)
  clear k44 x0 x1
  have HSZ44 : Hid (qc + 1 ≤ w44.heap.size) := Nat.le_trans HSZ43.out hb44.size
  replace HTX := hid (POwnText.below HTX.out hb44)
  clear ho44 hl44 hb44
  go_wp2_with fail
  have hs45 : qc + 1 ≤ w44.heap.size := by exact HSZ44.out
  have hb45 : Below w44.heap.size w44 (w44.alloc (.cells #[.int .u8 49, .int .u8 50, .int .u8 51, .int .u8 52, .int .u8 53, .int .u8 54, .int .u8 55, .int .u8 56] 5 (8, 9))) := (Below.refl _ w44).alloc (Nat.le_refl _) _
  have k45 := put_any (HCK44.out.below hb45) _ [49, 50, 51, 52, 53, 54, 55, 56] 8 8 rfl (row_new w44 [49, 50, 51, 52, 53, 54, 55, 56] (by decide) 5 (8, 9)) (by decide) (by decide) (Nat.le_trans hs45 hb45.size)
  rw [kn_p2] at k45
  refine k45.mono ?_
  rintro e w45 ⟨rfl, hck45, hch45⟩
  have HBC45 := hid ((HBC44.out.trans (hb45.mono HBC44.out.size)).trans (hch45.below (by rw [HQC.out]; exact Nat.le_refl _) (by rw [HQC.out]; exact Nat.le_succ _) (Nat.le_trans HBC44.out.size hb45.size)))
  have HCK45 := hid hck45
  replace HTX := hid (hch45.owns (POwnText.below HTX.out hb45) (by decide) (by decide))
  clear k45 hb45 hck45 hch45
  obtain ⟨x0, x1⟩ := (HX_b.out.below HBC45.out).cells
  go_wp2_with fail
  have k46 := read_any HCK45.out 10 a_b [⟨0, 3, 1, 0⟩, ⟨3, 4, 2, 5⟩, ⟨7, 3, 1, 7⟩] 3 c_b rfl (HP_b.out.below HBC45.out) (by decide) 0 10 (by decide) (by decide) (by decide) (by decide)
  rw [kn_r46] at k46
  refine k46.mono ?_
  rintro e w46 ⟨hg46, hb46⟩
  obtain ⟨vv46, he46, ho46, hl46⟩ := hg46
  obtain ⟨ra46, rc46, hv46, -⟩ := row_of_owns ho46 hl46
  simp only [List.length_cons, List.length_nil, Nat.zero_add, Nat.reduceAdd] at hv46 ho46
  subst hv46 he46
  have HBC46 := hid (HBC45.out.trans (hb46.mono HBC45.out.size))
  have HCK46 := hid (HCK45.out.below hb46)
  clear k46 x0 x1
  replace HTX := hid (POwnText.below HTX.out hb46)
  clear ho46 hl46 hb46
  obtain ⟨xa0, xa1⟩ := (HX_a.out.below HBC46.out).cells
  obtain ⟨xb0, xb1⟩ := (HX_b.out.below HBC46.out).cells
  obtain ⟨xc0, xc1⟩ := (HX_c.out.below HBC46.out).cells
  obtain ⟨xd0, xd1⟩ := (HX_d.out.below HBC46.out).cells
  obtain ⟨xf0, xf1⟩ := (HX_f.out.below HBC46.out).cells
  obtain ⟨bb, bo, hab, -, hpb⟩ := (HP_b.out.below HBC46.out).at_ (by simp)
  obtain ⟨p00, p01, p02, p03⟩ := hpb 0 (by decide)
  obtain ⟨p10, p11, p12, p13⟩ := hpb 1 (by decide)
  obtain ⟨p20, p21, p22, p23⟩ := hpb 2 (by decide)
  obtain ⟨cb, co, hac, -, hpc⟩ := (HP_c.out.below HBC46.out).at_ (by simp)
  obtain ⟨q20, q21, q22, q23⟩ := hpc 2 (by decide)
  have r11 := p11
  have r12 := p12
  have r13 := p13
  have r21 := p21
  have r22 := p22
  have r23 := p23
  have s21 := q21
  have s22 := q22
  have s23 := q23
  simp only [List.getD_cons_zero, List.getD_cons_succ, Nat.reduceMul, Nat.add_zero, Nat.zero_mul] at r11 r12 r13 r21 r22 r23 s21 s22 s23
  simp only [List.getD_cons_zero, List.getD_cons_succ, Nat.reduceMul, Nat.add_zero, Nat.zero_mul, Nat.add_assoc, Nat.reduceAdd] at p00 p01 p02 p03 p10 p11 p12 p13 p20 p21 p22 p23 q20 q21 q22 q23
  subst hab hac
  obtain ⟨rb, rd, hvr, -, -, hrow⟩ := row_of_owns (l := [52, 53, 54, 55, 56, 57]) HTX.out (by decide)
  simp only [Value.slice.injEq] at hvr
  obtain ⟨rfl, -, rfl⟩ := hvr
  have hstr : (convert 54 9 (.slice ra41 6 rc41)).run Try.prog w46 = .ok (.string { data := #[52, 53, 54, 55, 56, 57] }) w46 := str_any w46 ra41 [52, 53, 54, 55, 56, 57] 6 rc41 rfl hrow
  have eqA : ∀ w, (binOp .eql 58 (.agg #[.int .i64 0, .int .i64 3, .int .i64 1, .int .i64 0]) (.agg #[.int .i64 0, .int .i64 3, .int .i64 1, .int .i64 0])).run Try.prog w = .ok (.bool true) w := fun w => by kernel_rfl
  have eqB : ∀ w, (binOp .eql 58 (.agg #[.int .i64 3, .int .i64 4, .int .i64 2, .int .i64 5]) (.agg #[.int .i64 3, .int .i64 4, .int .i64 2, .int .i64 5])).run Try.prog w = .ok (.bool true) w := fun w => by kernel_rfl
  have eqC : ∀ w, (binOp .eql 58 (.agg #[.int .i64 7, .int .i64 3, .int .i64 1, .int .i64 7]) (.agg #[.int .i64 7, .int .i64 3, .int .i64 1, .int .i64 7])).run Try.prog w = .ok (.bool true) w := fun w => by kernel_rfl
  have HFIN := hid (HB.out.trans (HBC46.out.mono HB.out.size))
  clear hrow hpb hpc kc kd HCK46 HCK45 HCK44 HCK43 HCK42 HCK41 HCK40 HCK2 HBC2 HBC40 HBC41 HBC42 HBC43 HBC44 HBC45 HBC46 HSZ40 HSZ41 HSZ42 HSZ43 HSZ44 hs45 HTX HQC HQS2 HB HS HX_a HX_b HX_c HX_d HX_f HP_a HP_b HP_c HP_d HP_f HZ_a HZ_b HZ_c HZ_d HZ_f HZ1 HR1
  go_wp2_with fail
  go_ret
  exact ⟨rfl, HFIN.out⟩
end Go.Proofs.Ytccahhehbpahoaa
