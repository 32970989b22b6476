/- LogKnown, as it is walked: logs by hand: lengths that are none, a last that is another. No condition. -/
import Derived.Test.YteohjfhflodklaaKnD
namespace Go.Proofs.Yteohjfhflodklaa
open Go.ChangeShapes Go.WideShapes Go.ChangeAt Go.RowKit Pen
open Crc (four nx run)
set_option maxRecDepth 4000
set_option linter.unusedVariables false
theorem make40 (n : Nat) (hn : n ≤ 1000000) (w : World) : (Instr.makeSlice 40 (.int .i64 (n : Int)) (.int .i64 (n : Int))).run Try.prog w = .ok (.slice (some ⟨w.heap.size, 0, none⟩) n n) (w.alloc (.cells (row8 (List.replicate n 0)) 5)) := by
  have := run_make_row' 40 5 (.int .u8 0) 1 Try.underlying40 info5 rfl .i64 .i64 n (by omega) (by omega) w
  rw [made_row8] at this
  exact this
theorem zeros_row (w : World) (n : Nat) : Row (w.alloc (.cells (row8 (List.replicate n 0)) 5)) (some ⟨w.heap.size, 0, none⟩) (List.replicate n 0) := row_new w _ (by intro x hx; rw [List.eq_of_mem_replicate hx]; decide) 5 (0, 0)
theorem one_row (w : World) : Row (w.alloc (.cells #[.int .u8 1] 5)) (some ⟨w.heap.size, 0, none⟩) [1] := row_new w [1] (by decide) 5 (0, 0)
theorem alloc36 (W : World) : (Instr.alloc 36 true (.tuple #[])).run Try.prog W = .ok (.pointer (some ⟨W.heap.size, 0, none⟩)) (W.alloc (.cells #[.slice none 0 0, .int .i64 0, .int .u32 0] 36)) := by kernel_rfl
/-- What stays while the law goes on. -/
structure Kn (w0 : World) (g q p x : Nat) (d : Dk) (k mm : Nat) (segs : List Nat) (recs : List (Nat × List Nat)) (W : World) : Prop where
  is : LogIs W g q p x d k mm segs recs
  low : Below w0.heap.size w0 W
  gq : w0.heap.size ≤ q
  gp : w0.heap.size ≤ p
  gx : w0.heap.size ≤ x
  gg : w0.heap.size ≤ g
theorem Kn.below {w0 : World} {g q p x : Nat} {d : Dk} {k mm : Nat} {segs : List Nat} {recs : List (Nat × List Nat)} {W W' : World} (h : Kn w0 g q p x d k mm segs recs W) (hb : Below W.heap.size W W') : Kn w0 g q p x d k mm segs recs W' :=
  ⟨h.is.below hb, below_tr h.low hb h.low.size, h.gq, h.gp, h.gx, h.gg⟩
theorem Kn.put {w0 : World} {g q p x : Nat} {d d' : Dk} {k mm mm' : Nat} {segs segs' : List Nat} {recs recs' : List (Nat × List Nat)} {W W' : World} (h : Kn w0 g q p x d k mm segs recs W) (hb : But (fun j => j = q ∨ j = p ∨ j = x ∨ j = g) W W') (hi : LogIs W' g q p x d' k mm' segs' recs') : Kn w0 g q p x d' k mm' segs' recs' W' :=
  ⟨hi, h.low.trans (hb.below (fun j e => by rcases e with rfl | rfl | rfl | rfl; exact h.gq; exact h.gp; exact h.gx; exact h.gg) h.low.size), h.gq, h.gp, h.gx, h.gg⟩
theorem Ldie.below {w w' : World} {g q p x : Nat} {d : Dk} {k mm : Nat} {segs : List Nat} {n last boot : Nat} (h : Ldie w g q p x d k mm segs n last boot) (hb : Below w.heap.size w w') : Ldie w' g q p x d k mm segs n last boot :=
  ⟨h.log.below hb, h.disk.below hb, h.space.below hb, h.dead, h.fuse, h.room, h.le, h.low, h.fit, h.few⟩
theorem die_of {w w' : World} {g q p x : Nat} {d : Dk} {k mm : Nat} {segs : List Nat} {n last boot : Nat} (h : Lsys w g q p x d k mm segs n last boot) (hd : DiskAt w' q p (d.fused 0)) (hb : But (fun j => j = q) w w') : Ldie w' g q p x (d.fused 0) k mm segs n last boot :=
  ⟨h.log.but hb (noInts_of (fun j e => ⟨66, e ▸ h.disk.tag.1, by decide⟩)) (fun e => h.log.tag.ne h.disk.tag.1 (by decide) e), hd, h.space.but hb (fun e => h.space.tag.ne h.disk.tag.1 (by decide) e), h.dead, by simp [Dk.fused], h.room, h.le, h.low, h.fit, h.few⟩
/-- What stays behind the making of the three. -/
structure Kt (w0 : World) (g q p x : Nat) (d : Dk) (k mm : Nat) (segs : List Nat) (recs : List (Nat × List Nat)) (a5 : Option Addr) (n9 n10 n11 n12 : Nat) (C9 C10 C11 C12 : Array Value) (W : World) : Prop where
  kn : Kn w0 g q p x d k mm segs recs W
  r9 : W.heap[n9]? = some (.cells C9 36 (0, 0))
  r10 : W.heap[n10]? = some (.cells C10 36 (0, 0))
  r11 : W.heap[n11]? = some (.cells C11 36 (0, 0))
  r12 : W.heap[n12]? = some (.cells C12 36 (0, 0))
  srow : SRow W a5 (iv segs)
theorem Kt.below {w0 : World} {g q p x : Nat} {d : Dk} {k mm : Nat} {segs : List Nat} {recs : List (Nat × List Nat)} {a5 : Option Addr} {n9 n10 n11 n12 : Nat} {C9 C10 C11 C12 : Array Value} {W W' : World} (h : Kt w0 g q p x d k mm segs recs a5 n9 n10 n11 n12 C9 C10 C11 C12 W) (hb : Below W.heap.size W W') : Kt w0 g q p x d k mm segs recs a5 n9 n10 n11 n12 C9 C10 C11 C12 W' :=
  ⟨h.kn.below hb, (hb.block _ (Array.getElem?_eq_some_iff.1 h.r9).1).trans h.r9, (hb.block _ (Array.getElem?_eq_some_iff.1 h.r10).1).trans h.r10, (hb.block _ (Array.getElem?_eq_some_iff.1 h.r11).1).trans h.r11, (hb.block _ (Array.getElem?_eq_some_iff.1 h.r12).1).trans h.r12, h.srow.below hb⟩
set_option maxRecDepth 20000 in
set_option maxHeartbeats 8000000 in
theorem known_walk (w : World) : Calls Try.prog 8 #[] w fun e w' => e = .returned (.bool true) ∧ Below w.heap.size w w' := by
  have HN := hid (fun w1 => new_any w1 40 (by decide))
  go_enter Try.func8, Try.ntmps8
  go_wp2_with fail
  refine (awake_any w).mono ?_
  rintro e w1 ⟨rfl, hb1⟩
  have HB1 := hid hb1
  clear hb1
  go_wp2_with fail
  refine (HN.out w1).mono ?_
  rintro e w2 ⟨q, rfl, p, hd2, hb2, hq, hp⟩
  have HD2 := hid hd2
  have HB2 := hid (below_tr HB1.out hb2 HB1.out.size)
  have hq2 : w.heap.size ≤ q := Nat.le_trans HB1.out.size hq
  have hp2 : w.heap.size ≤ p := Nat.le_trans HB1.out.size hp
  clear HN hd2 hb2 hq hp
  go_wp2_with fail
  refine (Sp.new_any w2 4 4 (by decide)).mono ?_
  rintro e w3 ⟨x, rfl, hs3, hb3, hx⟩
  have HD3 := hid (HD2.out.below hb3)
  have HB3 := hid (below_tr HB2.out hb3 HB2.out.size)
  have HS3 := hid hs3
  have hx3 : w.heap.size ≤ x := Nat.le_trans HB2.out.size hx
  clear HD2 HB1 HB2 hs3 hb3 hx
  go_wp2_with fail
  refine (lnew_any w3 q).mono ?_
  rintro e w4 ⟨g, rfl, hl4, hb4, hg⟩
  have HK4 : Hid (Kn w g q p x (fresh (8 + 8 * 4)) 4 0 [] [] w4) := ⟨start_is (k := 4) (HD3.out.below hb4) (HS3.out.below hb4) hl4, below_tr HB3.out hb4 HB3.out.size, hq2, hp2, hx3, Nat.le_trans HB3.out.size hg⟩
  clear HD3 HS3 HB3 hl4 hb4 hg hq2 hp2 hx3
  go_wp2_with fail
  refine (append_no HK4.out.is.sys 0 none [] 0 0 rfl (by unfold MayBe; decide)).mono ?_
  rintro e w5 ⟨rfl, hw5⟩
  subst hw5
  go_wp2_with fail
  have hb6 : Below w5.heap.size w5 (w5.alloc (.cells #[.int .u8 1] 5)) := (Below.refl _ _).alloc (Nat.le_refl _) _
  have HK6 := hid (HK4.out.below hb6)
  clear hb6 HK4
  refine (append_no HK6.out.is.sys (-1) (some ⟨w5.heap.size, 0, none⟩) [1] 1 1 rfl (by unfold MayBe; decide)).mono ?_
  rintro e w7 ⟨rfl, hw7⟩
  have HK7 : Hid (Kn w g q p x (fresh (8 + 8 * 4)) 4 0 [] [] w7) := by rw [hw7]; exact HK6
  clear HK6 hw7
  have hmk := make40 3000 (by decide)
  have h3000 : ((3000 : Nat) : Int) = 3000 := rfl
  have hzr := fun W => zeros_row W 3000
  have hzl : (List.replicate 3000 0).length = 3000 := List.length_replicate ..
  obtain ⟨Z3000, hZ⟩ : ∃ Z : List Nat, List.replicate 3000 0 = Z := ⟨_, rfl⟩
  rw [h3000] at hmk
  rw [hZ] at hmk hzr hzl
  have HZR := hid hzr
  have HZL := hid hzl
  clear h3000 hZ hzr hzl
  go_wp2_with fail
  have hb8 : Below w7.heap.size w7 (w7.alloc (.cells (row8 Z3000) 5)) := (Below.refl _ _).alloc (Nat.le_refl _) _
  have HK8 := hid (HK7.out.below hb8)
  have HRZ := hid (HZR.out w7)
  clear hb8 hmk HK7
  have HP8 := hid (put_any HK8.out.is 0 (some ⟨w7.heap.size, 0, none⟩) Z3000 3000 3000 HZL.out HRZ.out)
  rw [show (((0 : Nat) : Int)) = 0 from rfl] at HP8
  generalize w7.alloc (.cells (row8 Z3000) 5) = w8 at *
  refine HP8.out.mono ?_
  rintro e w9 ⟨z, rfl, hput⟩
  have hmay : MayBe ((0 : Nat) : Int) Z3000 := by unfold MayBe; rw [HZL.out]; decide
  have hbig : ¬ lenOf [] + secsN Z3000 ≤ 8 * 4 := by unfold secsN; rw [HZL.out]; decide
  obtain ⟨rfl, HK9⟩ : z = 12 ∧ Hid (Kn w g q p x (fresh (8 + 8 * 4)) 4 0 [] [] w9) := by
    rcases hput with ⟨_, _, hr, _⟩ | ⟨_, hm, _⟩ | ⟨hz, _, _, hb, hi⟩
    · exact absurd hr hbig
    · exact absurd hmay hm
    · exact ⟨hz, HK8.out.below hb⟩
  clear hput hmay hbig HP8 HRZ HK8 HZR HZL
  have hmk := make40 600 (by decide)
  have h600 : ((600 : Nat) : Int) = 600 := rfl
  have hzr := fun W => zeros_row W 600
  have hzl : (List.replicate 600 0).length = 600 := List.length_replicate ..
  obtain ⟨Z600, hZ⟩ : ∃ Z : List Nat, List.replicate 600 0 = Z := ⟨_, rfl⟩
  rw [h600] at hmk
  rw [hZ] at hmk hzr hzl
  have HZR := hid hzr
  have HZL := hid hzl
  clear h600 hZ hzr hzl
  go_wp2_with fail
  have hb10 : Below w9.heap.size w9 (w9.alloc (.cells (row8 Z600) 5)) := (Below.refl _ _).alloc (Nat.le_refl _) _
  have HK10 := hid (HK9.out.below hb10)
  have HRZ := hid (HZR.out w9)
  clear hb10 hmk HK9
  have HP10 := hid (put_any HK10.out.is 0 (some ⟨w9.heap.size, 0, none⟩) Z600 600 600 HZL.out HRZ.out)
  rw [show (((0 : Nat) : Int)) = 0 from rfl] at HP10
  generalize w9.alloc (.cells (row8 Z600) 5) = w10 at *
  have hl6 : Z600.length = 600 := HZL.out
  have hlt6 : ∀ y ∈ Z600, y < 256 := HRZ.out.1
  refine HP10.out.mono ?_
  rintro e w11 ⟨z, rfl, hput⟩
  have hmay : MayBe ((0 : Nat) : Int) Z600 := by unfold MayBe; rw [hl6]; decide
  have hroom : lenOf [] + secsN Z600 ≤ 8 * 4 := by unfold secsN; rw [hl6]; decide
  obtain ⟨rfl, D, zt, HK11⟩ : z = 0 ∧ ∃ D zt, Hid (Kn w g q p x D 4 (0 + zt) ([] ++ List.range' 0 zt) ([] ++ [(0, Z600)]) w11) := by
    rcases hput with ⟨hz, _, _, hb, zt, hi⟩ | ⟨_, hm, _⟩ | ⟨_, _, hn, _⟩
    · exact ⟨hz, _, zt, HK10.out.put hb hi⟩
    · exact absurd hmay hm
    · exact absurd hroom hn
  clear hput hmay hroom HP10 HRZ HK10
  obtain ⟨sg, hsg⟩ : ∃ sg, [] ++ List.range' 0 zt = sg := ⟨_, rfl⟩
  obtain ⟨RR, hRR⟩ : ∃ RR, [] ++ [(0, Z600)] = RR := ⟨_, rfl⟩
  rw [hsg, hRR] at HK11
  have hlen : lenOf RR = 12 := by rw [← hRR]; show lenOf [(0, Z600)] = 12; rw [lenOf_one]; show cnt (Z600.length + 16) = 12; rw [hl6]; decide
  have hsgl : sg.length = 2 := by have h1 := HK11.out.is.tight; rw [hlen] at h1; rw [h1]; decide
  obtain ⟨la, hla⟩ : ∃ la, lastOf 0 RR = la := ⟨_, rfl⟩
  have hlal : la < 4294967296 := by rw [← hla]; exact lastOf_lt 0 (by decide) RR
  have HLEN := hid hlen
  have HSGL := hid hsgl
  have HLA := hid hla
  have HRR := hid hRR
  have HL6 := hid hl6
  have HLT6 := hid hlt6
  have HWH := hid (where_any HK11.out.is.sys.log)
  rw [hlen, hla, hsgl] at HWH
  generalize 0 + zt = mz at *
  clear hlen hsgl hla hRR hl6 hlt6 hsg
  go_wp2_with fail
  refine HWH.out.mono ?_
  rintro e w12 ⟨a5, c5, rfl, hs5, hc5, hm5, hz5, hb12⟩
  have HK12 := hid (HK11.out.below hb12)
  have HS5 := hid hs5
  clear hs5 hb12 HK11 HWH
  have hb36 := fun (W : World) => box36 W a5 2 c5 ((12 : Nat) : Int) (la : Nat)
  have hal36 := alloc36
  go_wp2_with (first | refine step_alloc 36 rfl rfl _ _ (hal36 _) ?_ | refine step_store 36 rfl _ _ rfl _ (hb36 _) ?_)
  have hb13 : Below w12.heap.size w12 (w12.alloc (.cells #[.slice a5 2 c5, .int .i64 12, .int .u32 (la : Int)] 36)) := (Below.refl _ _).alloc (Nat.le_refl _) _
  have hr9 : (w12.alloc (.cells #[.slice a5 2 c5, .int .i64 12, .int .u32 (la : Int)] 36)).heap[w12.heap.size]? = some (.cells #[.slice a5 2 c5, .int .i64 12, .int .u32 (la : Int)] 36 (0, 0)) := heap_alloc_new w12 _
  have HK13 := hid (HK12.out.below hb13)
  have HS13 := hid (HS5.out.below hb13)
  clear hb36 hal36 HK12 HS5
  obtain ⟨w13, hw13⟩ : ∃ w13, w12.alloc (.cells #[.slice a5 2 c5, .int .i64 12, .int .u32 (la : Int)] 36) = w13 := ⟨_, rfl⟩
  rw [hw13] at hr9 HK13 HS13 hb13
  have hw13' : w12.alloc (.cells #[.slice a5 2 c5, .int .i64 ((12 : Nat) : Int), .int .u32 ((la : Nat) : Int)] 36) = w13 := hw13
  try rw [hw13']
  obtain ⟨n9, hn9⟩ : ∃ n9, w12.heap.size = n9 := ⟨_, rfl⟩
  rw [hn9] at hr9 hb13
  try rw [hn9]
  have h9lt : n9 < w13.heap.size := (Array.getElem?_eq_some_iff.1 hr9).1
  clear hw13 hw13' hn9 hb13
  refine wp_region_held_drew (S := fun V => V.heap[n9]? = some (.cells #[.slice a5 2 c5, .int .i64 12, .int .u32 (la : Int)] 36 (0, 0))) (by kernel_rfl) hr9 (fun hHeld => ?_)
  refine take_op 0 (some 64) (.agg #[.slice a5 2 c5, .int .i64 12, .int .u32 (la : Int)]) rfl rfl (by kernel_rfl) (by kernel_rfl) (by kernel_rfl) (fun _ _ _ h => h) (by rfl) hHeld (fun W hW => ?_) ?_
  · have k0 : W.cell? ⟨n9, 0, none⟩ = some (.slice a5 2 c5) := by rw [cell_of_row W _ 0 _ 36 (0, 0) hW]; rfl
    have k1 : W.cell? ⟨n9, 1, none⟩ = some (.int .i64 12) := by rw [cell_of_row W _ 1 _ 36 (0, 0) hW]; rfl
    have k2 : W.cell? ⟨n9, 2, none⟩ = some (.int .u32 (la : Int)) := by rw [cell_of_row W _ 2 _ 36 (0, 0) hW]; rfl
    clear hHeld hW
    go_simp
  simp only [Act.put, List.setIfInBounds_toArray, List.set_cons_zero, List.set_cons_succ]
  refine take_op 1 (some 65) (.agg #[.slice a5 2 c5, .int .i64 12, .int .u32 (la : Int)]) rfl rfl (by kernel_rfl) (by kernel_rfl) (by kernel_rfl) (fun _ _ _ h => h) (by rfl) hHeld (fun W hW => ?_) ?_
  · have k0 : W.cell? ⟨n9, 0, none⟩ = some (.slice a5 2 c5) := by rw [cell_of_row W _ 0 _ 36 (0, 0) hW]; rfl
    have k1 : W.cell? ⟨n9, 1, none⟩ = some (.int .i64 12) := by rw [cell_of_row W _ 1 _ 36 (0, 0) hW]; rfl
    have k2 : W.cell? ⟨n9, 2, none⟩ = some (.int .u32 (la : Int)) := by rw [cell_of_row W _ 2 _ 36 (0, 0) hW]; rfl
    clear hHeld hW
    go_simp
  simp only [Act.put, List.setIfInBounds_toArray, List.set_cons_zero, List.set_cons_succ]
  refine take_op 2 (some 66) (.agg #[.slice a5 2 c5, .int .i64 12, .int .u32 (la : Int)]) rfl rfl (by kernel_rfl) (by kernel_rfl) (by kernel_rfl) (fun _ _ _ h => h) (by rfl) hHeld (fun W hW => ?_) ?_
  · have k0 : W.cell? ⟨n9, 0, none⟩ = some (.slice a5 2 c5) := by rw [cell_of_row W _ 0 _ 36 (0, 0) hW]; rfl
    have k1 : W.cell? ⟨n9, 1, none⟩ = some (.int .i64 12) := by rw [cell_of_row W _ 1 _ 36 (0, 0) hW]; rfl
    have k2 : W.cell? ⟨n9, 2, none⟩ = some (.int .u32 (la : Int)) := by rw [cell_of_row W _ 2 _ 36 (0, 0) hW]; rfl
    clear hHeld hW
    go_simp
  simp only [Act.put, List.setIfInBounds_toArray, List.set_cons_zero, List.set_cons_succ]
  clear hHeld
  refine start_act (by rfl) ?_
  refine three_new (F := 0) (base := w13.heap.size) (w0 := w13.drew) 36 #[.slice none 0 0, .int .i64 0, .int .u32 0] #[.slice a5 2 c5, .int .i64 12, .int .u32 (la : Int)] (.agg #[.slice a5 2 c5, .int .i64 12, .int .u32 (la : Int)]) _ (by simp) rfl rfl rfl rfl rfl rfl rfl rfl rfl rfl rfl rfl rfl rfl rfl rfl rfl rfl rfl rfl rfl _ _ _ rfl rfl rfl
    (fun s => ⟨rfl, rfl, rfl⟩) (fun a0 f0 a1 f1 a2 f2 => by cases a0 <;> cases f0 <;> cases a1 <;> cases f1 <;> cases a2 <;> cases f2 <;> kernel_rfl) alloc36 (fun W n h => store36 a5 2 c5 12 (la : Int) h)
    (fun W hb => (hb.block n9 h9lt).trans hr9) (Nat.le_refl _) ?_ 6 (fun _ => Sl.no) w13.drew rfl (three_start (Nat.le_refl _))
  intro n10 n11 n12 s W14 e0 e1 e2 hT
  have hls : listedOf s = #[true, true, true, true, true, true, true, true, true] := by simp [listedOf, e0, e1, e2, Sl.a, Sl.f]
  rw [hls]
  refine wpAnyH_done (by kernel_rfl) ?_ _
  unfold actOf
  rw [e0, e1, e2]
  simp only [Sl.v, List.setIfInBounds_toArray, List.set_cons_zero, List.set_cons_succ]
  have hb13 : Below w13.heap.size w13 w13.drew := Below.drew (Below.refl _ _)
  have hsz13 : w13.drew.heap.size = w13.heap.size := rfl
  have r10 := hT.full 0 n10 (by decide) e0
  have r11 := hT.full 1 n11 (by decide) e1
  have r12 := hT.full 2 n12 (by decide) e2
  have g10 := hT.new 0 n10 (by decide) (.inr e0)
  have g11 := hT.new 1 n11 (by decide) (.inr e1)
  have g12 := hT.new 2 n12 (by decide) (.inr e2)
  have ne1 : n10 ≠ n11 := fun e => hT.apart 0 1 n10 (by decide) (by decide) (by decide) (.inr e0) (.inr (by rw [e1, e]))
  have ne2 : n10 ≠ n12 := fun e => hT.apart 0 2 n10 (by decide) (by decide) (by decide) (.inr e0) (.inr (by rw [e2, e]))
  have ne3 : n11 ≠ n12 := fun e => hT.apart 1 2 n11 (by decide) (by decide) (by decide) (.inr e1) (.inr (by rw [e2, e]))
  have hlow := hT.low
  clear hls hT e0 e1 e2
  -- the three are changed
  obtain ⟨la2, hla2⟩ : ∃ la2, (la + 1) % 4294967296 = la2 := ⟨_, rfl⟩
  have hlane : la ≠ la2 := by omega
  have hla2l : la2 < 4294967296 := by omega
  have hwrap : IntKind.u32.wrap ((la : Int) + 1) = (la2 : Int) := by
    have e : IntKind.u32.wrap ((la : Int) + 1) = ((la : Int) + 1) % 4294967296 := by rfl
    rw [e]; omega
  obtain ⟨W15, hW15⟩ : ∃ V, W14.setCell ⟨n10, 1, none⟩ (.int .i64 11) = V := ⟨_, rfl⟩
  obtain ⟨W16, hW16⟩ : ∃ V, W15.setCell ⟨n11, 2, none⟩ (.int .u32 (la2 : Int)) = V := ⟨_, rfl⟩
  obtain ⟨W17, hW17⟩ : ∃ V, W16.setCell ⟨n12, 0, none⟩ (.slice a5 1 c5) = V := ⟨_, rfl⟩
  have c10 : W14.cell? ⟨n10, 1, none⟩ = some (.int .i64 12) := by rw [cell_of_row W14 _ 1 _ 36 (0, 0) r10]; rfl
  have f10 : W14.frozen? ⟨n10, 1, none⟩ = false := frozen_of_row W14 _ 1 _ 36 r10
  have r10b : W15.heap[n10]? = some (.cells #[.slice a5 2 c5, .int .i64 11, .int .u32 (la : Int)] 36 (0, 0)) := by rw [← hW15]; exact heap_setCell_same _ _ _ _ _ _ r10
  have r11b : W15.heap[n11]? = some (.cells #[.slice a5 2 c5, .int .i64 12, .int .u32 (la : Int)] 36 (0, 0)) := by rw [← hW15]; exact (Below.heap_setCell _ _ _ _ (Ne.symm ne1)).trans r11
  have r12b : W15.heap[n12]? = some (.cells #[.slice a5 2 c5, .int .i64 12, .int .u32 (la : Int)] 36 (0, 0)) := by rw [← hW15]; exact (Below.heap_setCell _ _ _ _ (Ne.symm ne2)).trans r12
  have c11 : W15.cell? ⟨n11, 2, none⟩ = some (.int .u32 (la : Int)) := by rw [cell_of_row W15 _ 2 _ 36 (0, 0) r11b]; rfl
  have f11 : W15.frozen? ⟨n11, 2, none⟩ = false := frozen_of_row W15 _ 2 _ 36 r11b
  have r10c : W16.heap[n10]? = some (.cells #[.slice a5 2 c5, .int .i64 11, .int .u32 (la : Int)] 36 (0, 0)) := by rw [← hW16]; exact (Below.heap_setCell _ _ _ _ ne1).trans r10b
  have r11c : W16.heap[n11]? = some (.cells #[.slice a5 2 c5, .int .i64 12, .int .u32 (la2 : Int)] 36 (0, 0)) := by rw [← hW16]; exact heap_setCell_same _ _ _ _ _ _ r11b
  have r12c : W16.heap[n12]? = some (.cells #[.slice a5 2 c5, .int .i64 12, .int .u32 (la : Int)] 36 (0, 0)) := by rw [← hW16]; exact (Below.heap_setCell _ _ _ _ (Ne.symm ne3)).trans r12b
  have c12 : W16.cell? ⟨n12, 0, none⟩ = some (.slice a5 2 c5) := by rw [cell_of_row W16 _ 0 _ 36 (0, 0) r12c]; rfl
  have f12 : W16.frozen? ⟨n12, 0, none⟩ = false := frozen_of_row W16 _ 0 _ 36 r12c
  have hlow17 : Below w13.heap.size w13 W17 := by
    rw [← hW17, ← hW16, ← hW15]
    exact hb13.trans (((hlow.setCell (p := ⟨n10, 1, none⟩) g10 _).setCell (p := ⟨n11, 2, none⟩) g11 _).setCell (p := ⟨n12, 0, none⟩) g12 _)
  have hlow16 : Below w13.heap.size w13 W16 := by
    rw [← hW16, ← hW15]
    exact hb13.trans ((hlow.setCell (p := ⟨n10, 1, none⟩) g10 _).setCell (p := ⟨n11, 2, none⟩) g11 _)
  have c9 : W16.cell? ⟨n9, 0, none⟩ = some (.slice a5 2 c5) := by
    have h9 := (hlow16.block n9 h9lt).trans hr9
    rw [cell_of_row W16 _ 0 _ 36 (0, 0) h9]; rfl
  have HT17 : Hid (Kt w g q p x D 4 mz sg RR a5 n9 n10 n11 n12 #[.slice a5 2 c5, .int .i64 12, .int .u32 (la : Int)] #[.slice a5 2 c5, .int .i64 11, .int .u32 (la : Int)] #[.slice a5 2 c5, .int .i64 12, .int .u32 (la2 : Int)] #[.slice a5 1 c5, .int .i64 12, .int .u32 (la : Int)] W17) := by
    refine ⟨HK13.out.below hlow17, (hlow17.block n9 h9lt).trans hr9, ?_, ?_, ?_, HS13.out.below hlow17⟩
    · rw [← hW17]; exact (Below.heap_setCell _ _ _ _ ne2).trans r10c
    · rw [← hW17]; exact (Below.heap_setCell _ _ _ _ ne3).trans r11c
    · rw [← hW17]; exact heap_setCell_same _ _ _ _ _ _ r12c
  have HNE := hid hlane
  have HC5 := hid hc5
  have hc52 : 1 ≤ c5 := by omega
  have hl10 := load36 HT17.out.r10
  clear hb13 hsz13 r10 r11 r12 g10 g11 g12 ne1 ne2 ne3 hlow r10b r11b r12b r10c r11c r12c hlow17 hlow16 hr9 hla2 hlane hla2l hc5 HK13 HS13 h9lt hlal
  go_wp2_with (first | refine step_load 36 rfl _ rfl _ hl10 ?_)
  -- a length that is no record's end
  have hat : At (pl D sg) 0 (secsOf 0 0 (mk 0 0 Z600)) := by
    have h := HT17.out.kn.is.at_
    rw [← HRR.out] at h
    exact h.left
  have hsc : scan (fun _ _ => true) (pl D sg) 11 0 0 0 11 = [] := scan_short (by rw [HL6.out]; decide) hat (by rw [HL6.out]; decide)
  have hsc12 : scan (fun _ _ => true) (pl D sg) 12 0 0 0 12 = RR := by
    have h := scan_all HT17.out.kn.is.ok HT17.out.kn.is.at_
    rwa [HLEN.out] at h
  have HSC12 := hid hsc12
  have k17 := load_any HT17.out.kn.is.sys.disk HT17.out.kn.is.sys.dead sg a5 2 c5 11 la HSGL.out HT17.out.srow.irow HT17.out.kn.is.sys.has (by decide) hz5
  rw [show ((11 : Nat) : Int) = 11 from rfl] at k17
  unfold Loaded at k17
  rw [hsc] at k17
  have K17 := hid k17
  clear hat hsc hsc12 k17 hl10 c9 c10 c11 c12 f10 f11 f12 hW15 hW16 hW17 hwrap
  refine K17.out.mono ?_
  rintro e w18 ⟨hb18, he⟩
  have hE : e = .returned (.tuple #[.pointer none, .slice none 0 0, .int .i64 13]) := by
    rcases he with ⟨_, h, _⟩ | ⟨_, h⟩
    · simp [lenOf] at h
    · exact h
  subst hE
  have HT18 := hid (HT17.out.below hb18)
  have hl11 := load36 HT18.out.r11
  clear he hb18 K17 HT17
  go_wp2_with (first | refine step_load 36 rfl _ rfl _ hl11 ?_)
  -- a last that is another
  have k18 := load_any HT18.out.kn.is.sys.disk HT18.out.kn.is.sys.dead sg a5 2 c5 12 la2 HSGL.out HT18.out.srow.irow HT18.out.kn.is.sys.has (by decide) hz5
  rw [show ((12 : Nat) : Int) = 12 from rfl] at k18
  unfold Loaded at k18
  rw [HSC12.out] at k18
  have K18 := hid k18
  clear k18 hl11
  refine K18.out.mono ?_
  rintro e w19 ⟨hb19, he⟩
  have hE : e = .returned (.tuple #[.pointer none, .slice none 0 0, .int .i64 13]) := by
    rcases he with ⟨_, _, h, _⟩ | ⟨_, h⟩
    · exact absurd (HLA.out.symm.trans h) HNE.out
    · exact h
  subst hE
  have HT19 := hid (HT18.out.below hb19)
  have hl12 := load36 HT19.out.r12
  clear he hb19 K18 HT18
  go_wp2_with (first | refine step_load 36 rfl _ rfl _ hl12 ?_)
  -- segments that are too few
  have hsg1 : (sg.take 1).length = 1 := by rw [List.length_take, HSGL.out]; rfl
  have hir1 : IRow w19 a5 (iv (sg.take 1)) := by
    rcases HT19.out.srow.irow with h | ⟨b, off, e, hlt, hc⟩
    · have := congrArg List.length h; rw [iv_len, HSGL.out] at this; cases this
    · refine .inr ⟨b, off, e, hlt, fun i hi => ?_⟩
      rw [iv_len, hsg1] at hi
      have hi0 : i = 0 := by omega
      subst hi0
      rw [hc 0 (by rw [iv_len, HSGL.out]; decide), iv_get, iv_get]
      simp
  have k19 := load_any HT19.out.kn.is.sys.disk HT19.out.kn.is.sys.dead (sg.take 1) a5 1 c5 12 la hsg1 hir1 (fun s hs => HT19.out.kn.is.sys.has s (List.mem_of_mem_take hs)) (by decide) hz5
  rw [show ((12 : Nat) : Int) = 12 from rfl] at k19
  unfold Loaded at k19
  rw [hsg1] at k19
  have K19 := hid k19
  clear k19 hl12 hsg1 hir1
  refine K19.out.mono ?_
  rintro e w20 ⟨hb20, he⟩
  have hE : e = .returned (.tuple #[.pointer none, .slice none 0 0, .int .i64 13]) := by
    rcases he with ⟨h, _⟩ | ⟨_, h⟩
    · omega
    · exact h
  subst hE
  have HT20 := hid (HT19.out.below hb20)
  clear he hb20 K19 HT19
  go_wp2_with fail
  -- of nothing at all
  have k20 := load_any HT20.out.kn.is.sys.disk HT20.out.kn.is.sys.dead [] none 0 0 0 0 rfl (.inl rfl) (fun s hs => by cases hs) (by decide) (fun _ => rfl)
  rw [show ((0 : Nat) : Int) = 0 from rfl] at k20
  have K20 := hid k20
  clear k20
  refine K20.out.mono ?_
  rintro e w21 ⟨hb21, he⟩
  obtain ⟨g21, a21, c21, rfl⟩ : ∃ g21 a21 c21, e = .returned (.tuple #[.pointer (some ⟨g21, 0, none⟩), .slice a21 0 c21, .int .i64 0]) := by
    rcases he with ⟨_, _, _, g', v, rfl, _, _, base, _, hre⟩ | ⟨h, _⟩
    · obtain ⟨a, c, rfl⟩ := hre.slice
      exact ⟨g', a, c, rfl⟩
    · exact absurd ⟨Nat.le_refl _, rfl, rfl⟩ h
  have HT21 := hid (HT20.out.below hb21)
  have hl9 := load36 HT21.out.r9
  clear he hb21 K20 HT20
  go_wp2_with (first | refine step_load 36 rfl _ rfl _ hl9 ?_)
  -- of what Where told
  have k21 := load_is HT21.out.kn.is a5 2 c5 HSGL.out HT21.out.srow.irow hz5
  rw [HLEN.out, HLA.out, show ((12 : Nat) : Int) = 12 from rfl] at k21
  have K21 := hid k21
  clear k21 hl9
  refine K21.out.mono ?_
  rintro e w22 ⟨g22, v22, rfl, _, _, ⟨base22, _, hre⟩, hb22⟩
  obtain ⟨a22, c22, hv22⟩ := hre.slice
  have hl1 : (RR.map (·.2)).length = 1 := by rw [← HRR.out]; rfl
  rw [hl1] at hv22
  subst hv22
  have HT22 := hid (HT21.out.below hb22)
  clear hb22 K21 HT21 hre hl1
  go_wp2_with fail
  -- power goes
  refine (fuse_any HT22.out.kn.is.sys.disk 0 (by decide)).mono ?_
  rintro e w23 ⟨rfl, hd23, ho23⟩
  have hb23 : But (fun j => j = q) w22 w23 := ho23.but.mono (fun j e => .inl (by rcases e with e | e; exact e; cases e))
  have hn9q : ¬ n9 = q := fun e => (show Tag w22 n9 36 from ⟨_, HT22.out.r9⟩).ne HT22.out.kn.is.sys.disk.tag.1 (by decide) e
  have HDI23 := hid (die_of HT22.out.kn.is.sys hd23 hb23)
  have HR23 := hid ((hb23.block n9 (Array.getElem?_eq_some_iff.1 HT22.out.r9).1 hn9q).trans HT22.out.r9)
  have HLW23 : Hid (Below w.heap.size w w23) := hid (HT22.out.kn.low.trans (hb23.below (fun j e => by rw [e]; exact HT22.out.kn.gq) HT22.out.kn.low.size))
  have HOPS : Hid (D.ops ≤ 112) := by have h := HT22.out.kn.is.ops; rw [HLEN.out] at h; exact h
  have HGE := hid (And.intro HT22.out.kn.gq (And.intro HT22.out.kn.gp HT22.out.kn.gx))
  clear hd23 ho23 hb23 hn9q HT22
  go_wp2_with fail
  have hb24 : Below w23.heap.size w23 (w23.alloc (.cells #[.int .u8 1] 5)) := (Below.refl _ _).alloc (Nat.le_refl _) _
  have HDI24 := hid (HDI23.out.below hb24)
  have HR24 := hid ((hb24.block n9 (Array.getElem?_eq_some_iff.1 HR23.out).1).trans HR23.out)
  have HLW24 := hid (below_tr HLW23.out hb24 HLW23.out.size)
  have k24 := append_dead HDI24.out 0 (some ⟨w23.heap.size, 0, none⟩) [1] 1 1 rfl (one_row w23) (by unfold MayBe; decide) (by have := HOPS.out; show D.ops ≤ 900000; omega) (by
    rw [HLEN.out, HSGL.out]
    have : segsN (12 + secsN [1]) = 2 := by decide
    omega)
  rw [show ((0 : Nat) : Int) = 0 from rfl] at k24
  have K24 := hid k24
  clear k24 hb24 HDI23 HR23 HLW23
  generalize w23.alloc (.cells #[.int .u8 1] 5) = w24 at *
  refine K24.out.mono ?_
  rintro e w25 ⟨rfl, hd25, hb25⟩
  have ht9 : Tag w24 n9 36 := ⟨_, HR24.out⟩
  have HR25 := hid ((hb25.block n9 (Array.getElem?_eq_some_iff.1 HR24.out).1 (fun e => by
    rcases e with e | e | e
    · exact ht9.ne HDI24.out.disk.tag.1 (by decide) e
    · exact ht9.ne HDI24.out.disk.tag.2 (by decide) e
    · exact ht9.ne HDI24.out.space.tag (by decide) e)).trans HR24.out)
  have HLW25 : Hid (Below w.heap.size w w25) := hid (HLW24.out.trans (hb25.below (fun j e => by rcases e with rfl | rfl | rfl; exact HGE.out.1; exact HGE.out.2.1; exact HGE.out.2.2) HLW24.out.size))
  have HD25 := hid hd25
  have hl9 := load36 HR25.out
  clear hd25 hb25 ht9 K24 HR24 HLW24 HDI24
  go_wp2_with (first | refine step_load 36 rfl _ rfl _ hl9 ?_)
  refine (load_dead HD25.out rfl _ _ _).mono ?_
  rintro e w26 ⟨rfl, hb26⟩
  have hr26 := (hb26.block n9 (Array.getElem?_eq_some_iff.1 HR25.out).1).trans HR25.out
  have c90 : w26.cell? ⟨n9, 0, none⟩ = some (.slice a5 2 c5) := by rw [cell_of_row w26 _ 0 _ 36 (0, 0) hr26]; rfl
  have c91 : w26.cell? ⟨n9, 1, none⟩ = some (.int .i64 12) := by rw [cell_of_row w26 _ 1 _ 36 (0, 0) hr26]; rfl
  have HLW26 := hid (below_tr HLW25.out hb26 HLW25.out.size)
  clear hb26 hr26 hl9
  go_wp2_with fail
  go_ret
  exact ⟨rfl, HLW26.out⟩
end Go.Proofs.Yteohjfhflodklaa
