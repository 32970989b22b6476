/- The document's example: 'awake' answers true in every world. No condition. -/
import Derived.Test.YtccahhehbpahoaaBoO
import Derived.Lib.SlBytesConst
namespace Go.Proofs.Ytccahhehbpahoaa
open Go.ChangeShapes Go.WideShapes Go.ChangeAt Go.RowKit
set_option maxRecDepth 4000
set_option linter.unusedVariables false
attribute [local go_sem ↓] Go.wp_at_zero Go.wp_at_succ
theorem Gave.at_ {B : Nat} {w' : World} {e : Ending} {r : Int × List Pt × Nat} (h : Gave B w' e r) : ∃ a c, e = .returned (.tuple #[.agg #[.int .i64 r.1, .slice a r.2.1.length c], .int .i64 (r.2.2 : Int)]) ∧ POwn 58 B w' (.slice a r.2.1.length c) r.2.1 ∧ PRow w' a r.2.1 ∧ (a = none → c = 0) := by
  obtain ⟨v, rfl, ho⟩ := h
  obtain ⟨a, c, rfl, _, _, h2, h3⟩ := ho.row
  exact ⟨a, c, rfl, ho, h2, h3⟩
theorem GaveT.at_ {B : Nat} {w' : World} {e : Ending} {r : List Nat × Nat} (h : GaveT B w' e r) : ∃ a c, e = .returned (.tuple #[.slice a r.1.length c, .int .i64 (r.2 : Int)]) ∧ Row w' a r.1 := by
  obtain ⟨v, rfl, ho, hl⟩ := h
  obtain ⟨a, c, rfl, _, _, h2⟩ := row_of_owns ho hl
  exact ⟨a, c, rfl, h2⟩
theorem put_xyz : put ⟨[], 0⟩ [120, 121, 122] = ((1, true, 0), ⟨[(1, [120, 121, 122])], 1⟩) := by rw [put_none (by decide) (by simp [byText])]; rfl
theorem row_xyz (w : World) : Row (w.alloc (.cells #[.int .u8 120, .int .u8 121, .int .u8 122] 5 (3, 4))) (some ⟨w.heap.size, 0, none⟩) [120, 121, 122] := row_new w [120, 121, 122] (by decide) 5 (3, 4)
theorem write_xyz : writeB 0 [] 5 [⟨0, 3, 1, 0⟩] = (8, [⟨5, 3, 1, 0⟩], 0) := by
  rw [writeB_some ⟨rfl, rfl⟩ (by decide) (by simp)]
  rfl
theorem read_xyz : readB [(1, [120, 121, 122])] 8 [⟨5, 3, 1, 0⟩] 0 8 = ([0, 0, 0, 0, 0, 120, 121, 122], 0) := by
  rw [readB_near ⟨by decide, by decide, by decide, rfl⟩ (by decide)]
  rfl
theorem eq_ptr52 (w : World) (q : Nat) : (binOp .eql 52 (.pointer (some ⟨q, 0, none⟩)) (.pointer none)).run Try.prog w = .ok (.bool false) w := by kernel_rfl
set_option maxHeartbeats 2000000 in
theorem awake_any (w : World) : Calls Try.prog 9 #[] w fun e w' => e = .returned (.bool true) ∧ Below w.heap.size w w' := by
  have kc := fun (w : World) => Lib.run_convert_bytes_const (P := Try.prog) w 54 5 #[.int .u8 120, .int .u8 121, .int .u8 122] 3 3 Try.underlying54 Try.underlying5
  simp only [List.size_toArray, List.length_cons, List.length_nil] at kc
  have h0 := hid (CkAt.new (w.heap.size + 1) w)
  have hb0 := hid ((Below.refl w.heap.size w).alloc (Nat.le_refl _) (.cells #[.map none, .map none, .int .i64 0] 81))
  have hs0 : Hid (w.heap.size + 1 ≤ (w.alloc (.cells #[.map none, .map none, .int .i64 0] 81)).heap.size) := by show _ ≤ _; simp
  go_enter Try.func9, Try.ntmps9
  go_wp2_with fail
  refine new_any.mono ?_
  rintro e w1 ⟨rfl, rfl⟩
  have hpe := fun w' => eq_ptr52 w' w.heap.size
  generalize w.alloc (.cells #[.map none, .map none, .int .i64 0] 81) = w1 at *
  go_wp2_with fail
  have hb1 : Below w1.heap.size w1 (w1.alloc (.cells #[.int .u8 120, .int .u8 121, .int .u8 122] 5 (3, 4))) := (Below.refl _ w1).alloc (Nat.le_refl _) _
  have k1 := put_any (h0.out.below hb1) _ [120, 121, 122] 3 3 rfl (row_xyz w1) (by decide) (by decide) (Nat.le_trans hs0.out hb1.size)
  rw [put_xyz] at k1
  have HB1 := hid (hb0.out.trans (hb1.mono hb0.out.size))
  have hsz1 := hb1.size
  have K1 := hid k1
  have HS1 := hid (Nat.le_trans hs0.out hsz1)
  clear k1 hb1 hsz1
  refine K1.out.mono ?_
  rintro e w2 ⟨rfl, h2, hc2⟩
  have H2 := hid h2
  have HB2 := hid (HB1.out.trans (hc2.below (Nat.le_refl _) (Nat.le_succ _) HB1.out.size))
  clear h2 hc2 K1
  have hp2 := prow_one (e := 58) (p := ⟨0, 3, 1, 0⟩) (heap_alloc_new w2 (.cells #[.int .i64 0, .int .i64 3, .int .i64 1, .int .i64 0] 58))
  have k3 := write_any (w := w2.alloc (.cells #[.int .i64 0, .int .i64 3, .int .i64 1, .int .i64 0] 58)) 0 none [] 0 0 rfl (fun _ => rfl) (.inl rfl) (by decide) 5 (by decide) (by decide) (some ⟨w2.heap.size, 0, none⟩) [⟨0, 3, 1, 0⟩] 1 1 rfl (by simp) hp2 (by decide)
  rw [write_xyz] at k3
  have K3 := hid k3
  have HB3 := hid ((Below.refl w2.heap.size w2).alloc (Nat.le_refl _) (.cells #[.int .i64 0, .int .i64 3, .int .i64 1, .int .i64 0] 58))
  clear k3 hp2
  go_wp2_with fail
  refine K3.out.mono ?_
  rintro e w4 ⟨hg4, hb4⟩
  obtain ⟨a4, c4, rfl, ho4, hr4, hz4⟩ := hg4.at_
  simp only [List.length_cons, List.length_nil, Nat.zero_add] at ho4 hz4 ⊢
  have HB4 := hid (HB3.out.trans (hb4.mono HB3.out.size))
  have hal4 := (Below.refl w4.heap.size w4).alloc (Nat.le_refl _) (.cells #[.int .i64 8, .slice a4 1 c4] 29)
  have HBX4 := hid (heap_alloc_new w4 (.cells #[.int .i64 8, .slice a4 1 c4] 29))
  have hck4 := H2.out.below (HB4.out.trans (hal4.mono HB4.out.size))
  have k5 := read_any hck4 8 a4 [⟨5, 3, 1, 0⟩] 1 c4 rfl (hr4.below hal4) (by decide) 0 8 (by decide) (by decide) (by decide) (by decide)
  rw [read_xyz] at k5
  have K5 := hid k5
  have HR4 := hid (hr4.below hal4)
  have HAL := hid (HB4.out.trans (hal4.mono HB4.out.size))
  clear hg4 hb4 ho4 hr4 hz4 hal4 hck4 k5 K3
  go_wp2_with fail
  generalize w4.alloc (.cells #[.int .i64 8, .slice a4 1 c4] 29) = w5 at *
  generalize w4.heap.size = y5 at *
  refine K5.out.mono ?_
  rintro e w6 ⟨hg6, hb6⟩
  obtain ⟨a6, c6, rfl, hr6⟩ := hg6.at_
  simp only [List.length_cons, List.length_nil, Nat.zero_add, Nat.reduceAdd] at hr6 ⊢
  have hx6 := (hb6.block y5 (lt_of_some HBX4.out)).trans HBX4.out
  have f0 : w6.cell? ⟨y5, 0, none⟩ = some (.int .i64 8) := by rw [cell_of_row w6 _ 0 _ 29 (0, 0) hx6]; rfl
  have f1 : w6.cell? ⟨y5, 1, none⟩ = some (.slice a4 1 c4) := by rw [cell_of_row w6 _ 1 _ 29 (0, 0) hx6]; rfl
  have hstr : (convert 54 9 (.slice a6 8 c6)).run Try.prog w6 = .ok (.string { data := #[0, 0, 0, 0, 0, 120, 121, 122] }) w6 := str_any w6 a6 [0, 0, 0, 0, 0, 120, 121, 122] 8 c6 rfl hr6
  have HB6 := hid (HAL.out.trans (hb6.mono HAL.out.size))
  have HR6 := hid (HR4.out.below hb6)
  have km := may_any16 (w := w6) 8 a4 [⟨5, 3, 1, 0⟩] 1 c4 rfl HR6.out (by decide)
  have KM := hid km
  have HMB : Hid (mayB 8 [⟨5, 3, 1, 0⟩] = true) := rfl
  rw [HMB.out] at KM
  clear hg6 hb6 hr6 hx6 km K5
  go_wp2_with fail
  refine KM.out.mono ?_
  rintro e w7 ⟨rfl, hb7⟩
  have HB7 := hid (HB2.out.trans ((HB6.out.trans (hb7.mono HB6.out.size)).mono HB2.out.size))
  clear hb7
  go_wp2_with fail
  go_ret
  exact ⟨rfl, HB7.out⟩
end Go.Proofs.Ytccahhehbpahoaa
