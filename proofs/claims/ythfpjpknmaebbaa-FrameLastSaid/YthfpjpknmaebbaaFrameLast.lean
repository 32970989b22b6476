/- FrameLast: a frame behind another last, or of another boot, is another one. No condition. -/
import Derived.Test.YthfpjpknmaebbaaPair
namespace Go.Proofs.Ythfpjpknmaebbaa
open Go.ChangeShapes Go.WideShapes Go.ChangeAt Go.RowKit Pen
open Crc (four nx run)
set_option maxRecDepth 4000
/-- Two arrays of two that came in, while the law goes on. -/
structure Two (w : World) (l0 l1 b0 b1 : Nat) (v : World) : Prop where
  bl : v.heap[w.heap.size]? = some (.cells #[.int .u32 (l0 : Int), .int .u32 (l1 : Int)] 42 (0, 0))
  bb : v.heap[w.heap.size + 1]? = some (.cells #[.int .u16 (b0 : Int), .int .u16 (b1 : Int)] 43 (0, 0))
  low : Below w.heap.size w v
  sz : w.heap.size + 1 < v.heap.size
theorem Two.below {w v v' : World} {l0 l1 b0 b1 : Nat} (h : Two w l0 l1 b0 b1 v) (hb : Below v.heap.size v v') : Two w l0 l1 b0 b1 v' :=
  ⟨(hb.block _ (by have := h.sz; omega)).trans h.bl, (hb.block _ h.sz).trans h.bb, h.low.trans (hb.mono h.low.size), Nat.lt_of_lt_of_le h.sz hb.size⟩
theorem Two.cells {w v : World} {l0 l1 b0 b1 : Nat} (h : Two w l0 l1 b0 b1 v) : (v.cell? ⟨w.heap.size, 0, none⟩ = some (.int .u32 (l0 : Int)) ∧ v.cell? ⟨w.heap.size, 1, none⟩ = some (.int .u32 (l1 : Int))) ∧ v.cell? ⟨w.heap.size + 1, 0, none⟩ = some (.int .u16 (b0 : Int)) ∧ v.cell? ⟨w.heap.size + 1, 1, none⟩ = some (.int .u16 (b1 : Int)) := by
  refine ⟨⟨?_, ?_⟩, ?_, ?_⟩
  · rw [cell_of_row v _ 0 _ 42 (0, 0) h.bl]; rfl
  · rw [cell_of_row v _ 1 _ 42 (0, 0) h.bl]; rfl
  · rw [cell_of_row v _ 0 _ 43 (0, 0) h.bb]; rfl
  · rw [cell_of_row v _ 1 _ 43 (0, 0) h.bb]; rfl
theorem Two.new (w : World) (l0 l1 b0 b1 : Nat) : Two w l0 l1 b0 b1 ((w.alloc (.cells #[.int .u32 (l0 : Int), .int .u32 (l1 : Int)] 42)).alloc (.cells #[.int .u16 (b0 : Int), .int .u16 (b1 : Int)] 43)) := by
  refine ⟨?_, ?_, ((Below.refl _ _).alloc (Nat.le_refl _) _).alloc (by simp) _, by simp⟩
  · rw [heap_alloc_old _ _ (by simp)]; exact heap_alloc_new _ _
  · have := heap_alloc_new (w.alloc (.cells #[.int .u32 (l0 : Int), .int .u32 (l1 : Int)] 42)) (.cells #[.int .u16 (b0 : Int), .int .u16 (b1 : Int)] 43)
    simpa using this
set_option maxRecDepth 10000 in
set_option maxHeartbeats 4000000 in
theorem frameLast_walk (a : Option Addr) (l : List Nat) (n cap l0 l1 b0 b1 : Nat) (w : World) (hn : l.length = n) (hr : Row w a l) (h0 : l0 < 4294967296) (h1 : l1 < 4294967296) (k0 : b0 < 65536) (k1 : b1 < 65536) :
    Calls Try.prog 8 #[.slice a n cap, .agg #[.int .u32 (l0 : Int), .int .u32 (l1 : Int)], .agg #[.int .u16 (b0 : Int), .int .u16 (b1 : Int)]] w fun e w' => e = .returned (.bool true) ∧ Below w.heap.size w w' := by
  have HR := hid hr
  have HN := hid hn
  clear hr hn
  obtain ⟨v0, hv0⟩ : ∃ v0, v0 = (w.alloc (.cells #[.int .u32 (l0 : Int), .int .u32 (l1 : Int)] 42)).alloc (.cells #[.int .u16 (b0 : Int), .int .u16 (b1 : Int)] 43) := ⟨_, rfl⟩
  have HT0 : Hid (Two w l0 l1 b0 b1 v0) := by rw [hv0]; exact Two.new w l0 l1 b0 b1
  have HV0 := hid hv0
  clear hv0
  by_cases z1 : n < 1
  · have hiz1 : (n : Int) < 1 := by omega
    go_enter Try.func8, Try.ntmps8
    go_wp2_with fail
    rw [← HV0.out]
    refine (awake_any v0).mono ?_
    rintro e w1 ⟨rfl, hb1⟩
    have HT1 := hid (HT0.out.below hb1)
    clear hb1
    go_wp2_with fail
    go_ret
    exact ⟨rfl, HT1.out.low⟩
  have hiz1 : ¬ (n : Int) < 1 := by omega
  by_cases z2 : 2000 < n
  · have hiz2 : (2000 : Int) < (n : Int) := by omega
    go_enter Try.func8, Try.ntmps8
    go_wp2_with fail
    rw [← HV0.out]
    refine (awake_any v0).mono ?_
    rintro e w1 ⟨rfl, hb1⟩
    have HT1 := hid (HT0.out.below hb1)
    clear hb1
    go_wp2_with fail
    go_ret
    exact ⟨rfl, HT1.out.low⟩
  have hiz2 : ¬ (2000 : Int) < (n : Int) := by omega
  by_cases hl : l0 = l1
  · subst hl
    by_cases hb : b0 = b1
    · subst hb
      have HMI := hid (mk_inj (r := l) (b1 := b0) (b2 := b0) h0 h0 (by have := HN.out; omega) (by omega) (by omega))
      have HRD : Hid (rd l0 (mk l0 b0 l) = some (l, b0)) := rd_mk0 (by have := HN.out; omega) (by have := HN.out; omega) (by omega)
      go_enter Try.func8, Try.ntmps8
      go_wp2_with fail
      rw [← HV0.out]
      refine (awake_any v0).mono ?_
      rintro e w1 ⟨rfl, hb1⟩
      have HT1 := hid (HT0.out.below hb1)
      obtain ⟨⟨c1, c2⟩, c3, c4⟩ := HT1.out.cells
      clear hb1
      go_wp2_with fail
      refine (make_any l0 b0 a l n cap w1 h0 (by omega) HN.out (by omega) (by omega) (HR.out.below HT1.out.low)).mono ?_
      rintro e w2 ⟨g2, p2, rfl, hm2, hb2⟩
      have HT2 := hid (HT1.out.below hb2)
      have HM2 := hid (hm2.low HT1.out.low.size)
      clear hm2 hb2 c1 c2 c3 c4 HT1
      obtain ⟨⟨c1, c2⟩, c3, c4⟩ := HT2.out.cells
      go_wp2_with fail
      refine (make_any l0 b0 a l n cap w2 h0 (by omega) HN.out (by omega) (by omega) (HR.out.below HT2.out.low)).mono ?_
      rintro e w3 ⟨g3, p3, rfl, hm3, hb3⟩
      have HT3 := hid (HT2.out.below hb3)
      have HM3 := hid (hm3.low HT2.out.low.size)
      have HF3 := hid (HM2.out.below hb3)
      clear hm3 hb3 c1 c2 c3 c4 HT2 HM2
      obtain ⟨⟨c1, c2⟩, c3, c4⟩ := HT3.out.cells
      go_wp2_with fail
      refine (read_any l0 _ (mk l0 b0 l) (n + 16) p2 w3 h0 HF3.out.1 HF3.out.row.1 HF3.out.row.2).mono ?_
      rintro e w4 ⟨hrd, hb4⟩
      rw [HRD.out] at hrd
      obtain ⟨a4, n4, p4, rfl, -, -⟩ := readen_some hrd
      have HT4 := hid (HT3.out.below hb4)
      have s1 : (convert 23 9 (.slice (some ⟨g2, 0, none⟩) (n + 16) p2)).run Try.prog w4 = .ok (.string (strOf (mk l0 b0 l))) w4 := str_any w4 _ _ _ _ HF3.out.1 (HF3.out.row.2.below hb4)
      have s2 : (convert 23 9 (.slice (some ⟨g3, 0, none⟩) (n + 16) p3)).run Try.prog w4 = .ok (.string (strOf (mk l0 b0 l))) w4 := str_any w4 _ _ _ _ HM3.out.1 (HM3.out.row.2.below hb4)
      have s3 := strs_same (mk l0 b0 l) (mk l0 b0 l) HF3.out.2.1 HM3.out.2.1
      rw [decide_eq_true rfl] at s3
      generalize strOf (mk l0 b0 l) = SA at *
      clear hrd hb4 c1 c2 c3 c4 HT3 HM3 HF3
      obtain ⟨⟨c1, c2⟩, c3, c4⟩ := HT4.out.cells
      generalize nx l0 l = X0
      go_wp2_with fail
      go_ret
      exact ⟨rfl, HT4.out.low⟩
    · have HMI := hid (mk_inj (r := l) (b1 := b0) (b2 := b1) h0 h0 (by have := HN.out; omega) (by omega) (by omega))
      have HRD : Hid (rd l0 (mk l0 b0 l) = some (l, b0)) := rd_mk0 (by have := HN.out; omega) (by have := HN.out; omega) (by omega)
      have hb2 : ((b0 : Int) == (b1 : Int)) = false := by simp; omega
      go_enter Try.func8, Try.ntmps8
      go_wp2_with fail
      rw [← HV0.out]
      refine (awake_any v0).mono ?_
      rintro e w1 ⟨rfl, hb1⟩
      have HT1 := hid (HT0.out.below hb1)
      obtain ⟨⟨c1, c2⟩, c3, c4⟩ := HT1.out.cells
      clear hb1
      go_wp2_with fail
      refine (make_any l0 b0 a l n cap w1 h0 (by omega) HN.out (by omega) (by omega) (HR.out.below HT1.out.low)).mono ?_
      rintro e w2 ⟨g2, p2, rfl, hm2, hb2⟩
      have HT2 := hid (HT1.out.below hb2)
      have HM2 := hid (hm2.low HT1.out.low.size)
      clear hm2 hb2 c1 c2 c3 c4 HT1
      obtain ⟨⟨c1, c2⟩, c3, c4⟩ := HT2.out.cells
      go_wp2_with fail
      refine (make_any l0 b1 a l n cap w2 h0 (by omega) HN.out (by omega) (by omega) (HR.out.below HT2.out.low)).mono ?_
      rintro e w3 ⟨g3, p3, rfl, hm3, hb3⟩
      have HT3 := hid (HT2.out.below hb3)
      have HM3 := hid (hm3.low HT2.out.low.size)
      have HF3 := hid (HM2.out.below hb3)
      clear hm3 hb3 c1 c2 c3 c4 HT2 HM2
      obtain ⟨⟨c1, c2⟩, c3, c4⟩ := HT3.out.cells
      go_wp2_with fail
      refine (read_any l0 _ (mk l0 b0 l) (n + 16) p2 w3 h0 HF3.out.1 HF3.out.row.1 HF3.out.row.2).mono ?_
      rintro e w4 ⟨hrd, hb4⟩
      rw [HRD.out] at hrd
      obtain ⟨a4, n4, p4, rfl, -, -⟩ := readen_some hrd
      have HT4 := hid (HT3.out.below hb4)
      have s1 : (convert 23 9 (.slice (some ⟨g2, 0, none⟩) (n + 16) p2)).run Try.prog w4 = .ok (.string (strOf (mk l0 b0 l))) w4 := str_any w4 _ _ _ _ HF3.out.1 (HF3.out.row.2.below hb4)
      have s2 : (convert 23 9 (.slice (some ⟨g3, 0, none⟩) (n + 16) p3)).run Try.prog w4 = .ok (.string (strOf (mk l0 b1 l))) w4 := str_any w4 _ _ _ _ HM3.out.1 (HM3.out.row.2.below hb4)
      have s3 := strs_same (mk l0 b0 l) (mk l0 b1 l) HF3.out.2.1 HM3.out.2.1
      rw [decide_eq_false (fun e => hb (HMI.out.1 e).2)] at s3
      generalize strOf (mk l0 b0 l) = SA at *
      generalize strOf (mk l0 b1 l) = SB at *
      clear hrd hb4 c1 c2 c3 c4 HT3 HM3 HF3
      obtain ⟨⟨c1, c2⟩, c3, c4⟩ := HT4.out.cells
      generalize nx l0 l = X0
      go_wp2_with fail
      go_ret
      exact ⟨rfl, HT4.out.low⟩
  · have HMI := hid (mk_inj (r := l) (b1 := b0) (b2 := b1) h0 h1 (by have := HN.out; omega) (by omega) (by omega))
    have HRD : Hid (rd l1 (mk l0 b0 l) = none) := by
      have h := rd_other h0 h1 hl (r := l) (b := b0) (by have := HN.out; omega) (by omega) []
      rw [List.append_nil] at h
      exact h
    have hl2 : ((l0 : Int) == (l1 : Int)) = false := by simp; omega
    go_enter Try.func8, Try.ntmps8
    go_wp2_with fail
    rw [← HV0.out]
    refine (awake_any v0).mono ?_
    rintro e w1 ⟨rfl, hb1⟩
    have HT1 := hid (HT0.out.below hb1)
    obtain ⟨⟨c1, c2⟩, c3, c4⟩ := HT1.out.cells
    clear hb1
    go_wp2_with fail
    refine (make_any l0 b0 a l n cap w1 h0 (by omega) HN.out (by omega) (by omega) (HR.out.below HT1.out.low)).mono ?_
    rintro e w2 ⟨g2, p2, rfl, hm2, hb2⟩
    have HT2 := hid (HT1.out.below hb2)
    have HM2 := hid (hm2.low HT1.out.low.size)
    clear hm2 hb2 c1 c2 c3 c4 HT1
    obtain ⟨⟨c1, c2⟩, c3, c4⟩ := HT2.out.cells
    go_wp2_with fail
    refine (make_any l1 b1 a l n cap w2 h1 (by omega) HN.out (by omega) (by omega) (HR.out.below HT2.out.low)).mono ?_
    rintro e w3 ⟨g3, p3, rfl, hm3, hb3⟩
    have HT3 := hid (HT2.out.below hb3)
    have HM3 := hid (hm3.low HT2.out.low.size)
    have HF3 := hid (HM2.out.below hb3)
    clear hm3 hb3 c1 c2 c3 c4 HT2 HM2
    obtain ⟨⟨c1, c2⟩, c3, c4⟩ := HT3.out.cells
    go_wp2_with fail
    refine (read_any l1 _ (mk l0 b0 l) (n + 16) p2 w3 h1 HF3.out.1 HF3.out.row.1 HF3.out.row.2).mono ?_
    rintro e w4 ⟨hrd, hb4⟩
    rw [HRD.out] at hrd
    obtain rfl := readen_none hrd
    have HT4 := hid (HT3.out.below hb4)
    have s1 : (convert 23 9 (.slice (some ⟨g2, 0, none⟩) (n + 16) p2)).run Try.prog w4 = .ok (.string (strOf (mk l0 b0 l))) w4 := str_any w4 _ _ _ _ HF3.out.1 (HF3.out.row.2.below hb4)
    have s2 : (convert 23 9 (.slice (some ⟨g3, 0, none⟩) (n + 16) p3)).run Try.prog w4 = .ok (.string (strOf (mk l1 b1 l))) w4 := str_any w4 _ _ _ _ HM3.out.1 (HM3.out.row.2.below hb4)
    have s3 := strs_same (mk l0 b0 l) (mk l1 b1 l) HF3.out.2.1 HM3.out.2.1
    rw [decide_eq_false (fun e => hl (HMI.out.1 e).1)] at s3
    generalize strOf (mk l0 b0 l) = SA at *
    generalize strOf (mk l1 b1 l) = SB at *
    clear hrd hb4 c1 c2 c3 c4 HT3 HM3 HF3
    obtain ⟨⟨c1, c2⟩, c3, c4⟩ := HT4.out.cells
    generalize nx l0 l = X0
    generalize nx l1 l = X1
    go_wp2_with fail
    go_ret
    exact ⟨rfl, HT4.out.low⟩
theorem frameLast_all (W : World) (a0 : Option Addr) (len0 cap0 : Nat) (l0 : List Nat) (hr0 : Row W a0 l0) (hl0 : l0.length = len0) (x1 y1 : Int) (wx1 : (Lit.int .u32 x1).wf = true) (wy1 : (Lit.int .u32 y1).wf = true) (x2 y2 : Int) (wx2 : (Lit.int .u16 x2).wf = true) (wy2 : (Lit.int .u16 y2).wf = true) :
    Calls Try.prog 8 #[.slice a0 len0 cap0, .agg #[.int .u32 x1, .int .u32 y1], .agg #[.int .u16 x2, .int .u16 y2]] W fun e w' => e = .returned (.bool true) ∧ Below W.heap.size W w' := by
  have q1 := bounds_u32 wx1
  have q2 := bounds_u32 wy1
  have q3 := bounds_u16 wx2
  have q4 := bounds_u16 wy2
  obtain ⟨n1, rfl⟩ : ∃ n : Nat, x1 = (n : Int) := ⟨x1.toNat, by omega⟩
  obtain ⟨n2, rfl⟩ : ∃ n : Nat, y1 = (n : Int) := ⟨y1.toNat, by omega⟩
  obtain ⟨n3, rfl⟩ : ∃ n : Nat, x2 = (n : Int) := ⟨x2.toNat, by omega⟩
  obtain ⟨n4, rfl⟩ : ∃ n : Nat, y2 = (n : Int) := ⟨y2.toNat, by omega⟩
  exact frameLast_walk a0 l0 len0 cap0 n1 n2 n3 n4 W hl0 hr0 (by omega) (by omega) (by omega) (by omega)
set_option linter.unusedVariables false
set_option maxRecDepth 100000 in
theorem frameLast_lifted (os : Os) (started : os.Started) (H : Type) (enc : TypeId × Value → H) :
    ReturnsInHanded {} Try.checked os 8 .any (Rows.frameLastSpec.pre6 enc Try.prog Try.f8 Rows.frameLastRow.domain false) (Rows.frameLastSpec.post enc Try.prog Try.f8 false true false false) := by
  refine returnsInHanded_of_change (C := Try.checked) own started (by kernel_rfl) Try.func8
    (ChangeSpec.witness6 (enc := enc) (C := Try.checked) false ⟨#[], #[.slice none 0 0, .agg #[.int .u32 0, .int .u32 0], .agg #[.int .u16 0, .int .u16 0]], []⟩ 8 (by kernel_rfl) (by kernel_rfl) (by kernel_rfl) (by kernel_rfl)) ?_
  intro W base args ds gs before hval0 hW hcnd _
  have hval : ∀ (j : Nat) t v, Try.f8.params[j]? = some t → args[j]? = some v → Value.okWide Try.prog W .any base t v := hval0
  have hW' := hW
  obtain ⟨p, q, hA0, hV, rfl, hfz, hnd⟩ := hW
  have hA : DataW.TrodAll enc Try.prog W 0 (fun _ => true) true Try.f8.params.toList args.toList ds p := hA0
  rw [Try.params8] at hA hval
  obtain ⟨v0, vs0, d0, ds0, p0, q0, hargs, rfl, rfl, h0, r0⟩ := trodAll_cons hA
  obtain ⟨v1, vs1, d1, ds1, p1, q1, rfl, rfl, rfl, h1, r1⟩ := trodAll_cons r0
  obtain ⟨v2, vs2, d2, ds2, p2, q2, rfl, rfl, rfl, h2, r2⟩ := trodAll_cons r1
  obtain ⟨rfl, rfl, rfl⟩ := trodAll_nil r2
  obtain rfl : args = #[v0, v1, v2] := by cases args; simp_all
  obtain ⟨rfl, rfl⟩ := trodVars_none hV
  obtain ⟨a0, len0, cap0, rfl⟩ := okWide_slice Try.underlying23 (hval 0 23 v0 rfl rfl)
  have k0 := h0
  have lt0 : ∀ x ∈ p0, x.block < W.heap.size := by obtain ⟨m, hm⟩ := k0; exact DataW.trod_lt m _ _ _ hm
  obtain ⟨l0, hl0, hr0⟩ : ∃ l, l.length = len0 ∧ Row W a0 l := by
    obtain ⟨fuel, hf⟩ := h0
    exact rows_of hf
  obtain ⟨x1, y1, rfl, wx1, wy1⟩ := pair_of Try.underlying42 (by kernel_rfl) (by kernel_rfl) Try.underlying25 (hval 1 42 v1 rfl rfl) h1
  have k1 := h1
  have lt1 : ∀ x ∈ p1, x.block < W.heap.size := by obtain ⟨m, hm⟩ := k1; exact DataW.trod_lt m _ _ _ hm
  obtain ⟨x2, y2, rfl, wx2, wy2⟩ := pair_of Try.underlying43 (by kernel_rfl) (by kernel_rfl) Try.underlying36 (hval 2 43 v2 rfl rfl) h2
  have k2 := h2
  have lt2 : ∀ x ∈ p2, x.block < W.heap.size := by obtain ⟨m, hm⟩ := k2; exact DataW.trod_lt m _ _ _ hm
  clear hA0 hval0
  refine (frameLast_all W a0 len0 cap0 l0 hr0 hl0 x1 y1 wx1 wy1 x2 y2 wx2 wy2).mono fun e W' ⟨he, bel⟩ => ?_
  subst he
  exact ⟨_, rfl, _, _, _, [], _, [], hW', trodAll_mk1 (shut_bool Try.underlying4 _), (trodAll_cons_mk (Below.trod laidOut (by kernel_rfl) (of_decide_eq_true (by kernel_rfl)) k0 bel lt0) (trodAll_cons_mk (Below.trod laidOut (by kernel_rfl) (of_decide_eq_true (by kernel_rfl)) k1 bel lt1) (trodAll_cons_mk (Below.trod laidOut (by kernel_rfl) (of_decide_eq_true (by kernel_rfl)) k2 bel lt2) trodAll_mk0))), rfl, bel.frame _, fun h => by cases h⟩

theorem frameLast_over : Rows.frameLastRow.holds Try.pinned (OpenSpec.ofChange Rows.frameLastSpec) :=
  OpenClaim.holds_of_wide 8 Try.f8 rfl rfl rfl rfl rfl rfl rfl ⟨rfl, rfl, rfl, rfl, rfl⟩ rfl rfl rfl rfl rfl (by kernel_rfl) Try.func8 (by kernel_rfl)
    (of_decide_eq_true (by kernel_rfl)) (by unfold Func.isWrapper; first | (rw [if_pos (by decide +kernel)]; kernel_rfl) | (rw [if_neg (by decide +kernel)]; exact ⟨rfl, rfl⟩))
    (fun os started H enc _ => frameLast_lifted os started H enc)
theorem frameLast_holds : Rows.FrameLastSaid := frameLast_over
#print axioms frameLast_holds
end Go.Proofs.Ythfpjpknmaebbaa
