/- What New, Where, Give and lies of log do. Condition: segments that there are. -/
import Derived.Test.YteohjfhflodklaaLogF
namespace Go.Proofs.Yteohjfhflodklaa
open Go.RowKit Pen
set_option maxRecDepth 4000
set_option maxHeartbeats 1000000 in
theorem lnew_any (w : World) (q : Nat) : Calls Try.prog 13 #[.pointer (some ⟨q, 0, none⟩)] w fun e w' => ∃ g, e = .returned (.pointer (some ⟨g, 0, none⟩)) ∧ LogAt w' g q [] 0 0 0 ∧ Below w.heap.size w w' ∧ w.heap.size ≤ g := by
  have HA : Hid (LogAt (w.alloc (.cells (lgCells q none 0 0 0 0 0) 71)) w.heap.size q [] 0 0 0) := ⟨⟨none, 0, heap_alloc_new w _, .inl rfl, Nat.le_refl _, Nat.zero_le _, fun _ => rfl⟩, by simp, by simp, by decide, by decide, by decide⟩
  have HB : Hid (Below w.heap.size w (w.alloc (.cells (lgCells q none 0 0 0 0 0) 71))) := (Below.refl _ w).alloc (Nat.le_refl _) _
  go_enter Try.func13, Try.ntmps13
  go_wp2_with fail
  go_ret
  exact ⟨_, rfl, HA.out, HB.out, Nat.le_refl _⟩
theorem size71 : (Try.prog.info? 71).map (·.size) = some 5 := by kernel_rfl
theorem lg_one (q : Nat) (a : Option Addr) (k c n last boot : Nat) : ∀ v ∈ (lgCells q a k c n last boot).toList, v.oneCell' = true := by
  intro v hv
  simp [lgCells] at hv
  rcases hv with rfl | rfl | rfl | rfl | rfl <;> rfl
/-- A log laid over another. -/
theorem store71 {w : World} {g : Nat} {q q' : Nat} {a a' : Option Addr} {k c n last boot k' c' n' last' boot' : Nat} (h : w.heap[g]? = some (.cells (lgCells q a k c n last boot) 71 (0, 0))) :
    (Instr.storeAt 71 (.pointer (some ⟨g, 0, none⟩)) (.agg (lgCells q' a' k' c' n' last' boot'))).run Try.prog w = .ok () (w.setRow g (lgCells q' a' k' c' n' last' boot')) := by
  have := run_storeAt_row w g 0 71 71 (lgCells q a k c n last boot).toList (lgCells q' a' k' c' n' last' boot').toList (by simpa using h) (by exact size71) (by simp [lgCells]) (lg_one _ _ _ _ _ _ _)
  simpa [splice, lgCells] using this
theorem setRow_but (w : World) (g : Nat) (cs : Array Value) : But (fun k => k = g) w (w.setRow g cs) :=
  ⟨rfl, rfl, rfl, by simp [World.setRow], fun k _ h => setRow_other w g k cs h⟩
set_option maxHeartbeats 1000000 in
theorem lgive_any {w : World} {g q x k n last boot : Nat} {segs : List Nat} {t : List Bool} (h : LogAt w g q segs n last boot) (hs : Sp.SpAt w x k t) (hl : ∀ s ∈ segs, s < k) :
    Calls Try.prog 21 #[.pointer (some ⟨g, 0, none⟩), .pointer (some ⟨x, 0, none⟩)] w fun e w' => e = .returned (.tuple #[]) ∧ LogAt w' g q [] 0 0 0 ∧ Sp.SpAt w' x k (giveAll t segs) ∧ But (fun j => j = x ∨ j = g) w w' := by
  have hgx : g ≠ x := h.tag.ne hs.tag (by decide)
  have HNI := hid (noInts_of (S := fun j => j = x) (fun j e => ⟨69, e ▸ hs.tag, by decide⟩))
  obtain ⟨a, c, h1, h2, h3, h4, h5⟩ := h.blk
  have H := hid h
  have HH := hid h1
  have HR := hid h2
  have HL := hid hl
  have HS := hid hs
  have hlen := h.len
  have hc1 : w.cell? ⟨g, 1, none⟩ = some (.slice a segs.length c) := by rw [cell_of_row w g 1 _ 71 (0, 0) h1]; rfl
  have HGN := hid (Nat.le_refl segs.length)
  generalize hk : segs.length = kk at *
  have HK := hid hk
  clear h hs h1 h2 h3 h4 h5 hl hk
  go_enter Try.func21, Try.ntmps21
  go_wp2_with fail
  refine (give_segs HS.out a segs kk c HK.out HR.out HL.out (by omega)).mono ?_
  rintro e w1 ⟨rfl, hs1, hb1⟩
  have hblk : w1.heap[g]? = some (.cells (lgCells q a kk c n last boot) 71 (0, 0)) := (hb1.block g H.out.glt hgx).trans HH.out
  have hc0 : w1.cell? ⟨g, 0, none⟩ = some (.pointer (some ⟨q, 0, none⟩)) := by rw [cell_of_row w1 g 0 _ 71 (0, 0) hblk]; rfl
  have HST := hid (store71 (q' := q) (a' := none) (k' := 0) (c' := 0) (n' := 0) (last' := 0) (boot' := 0) hblk)
  have HS1 := hid hs1
  have HB1 := hid hb1
  have HBL := hid hblk
  clear hs1 hb1 hblk hc1
  go_wp2_with (refine step_store 71 rfl _ _ rfl _ HST.out ?_)
  go_end0
  have hb2 := setRow_but w1 g (lgCells q none 0 0 0 0 0)
  refine ⟨rfl, ⟨⟨none, 0, setRow_heap _ _ _ _ 71 _ HBL.out, .inl rfl, Nat.le_refl _, Nat.zero_le _, fun _ => rfl⟩, by simp, by simp, by decide, by decide, by decide⟩, HS1.out.but hb2 (fun e => hgx e.symm), ?_⟩
  exact (HB1.out.mono (fun k e => .inl (.inl e))).trans hb2 (fun k e => .inl (.inr e))
theorem step_store_region {ops : Array Oper} {op : Oper} {a : Act} {w : World} {K : Act → World → Prop} {Q : Exit → Act → World → Prop} {E : Prop} (ty : TypeId) (hgd : op.guard = none) (x y : Operand)
    (ho : op.op = .store ty x y) (u v : Value) (hx : a.eval x = u) (hy : a.eval y = v) (w' : World) (hrun : (Instr.storeAt ty u v).run Try.prog w = .ok () w')
    (z : Option Tmp) (hz : op.dst = z) (h : K (a.put z undef) w') : if Region.wanted op (yielded ops a.tmps) = true then Oper.wp Try.prog op a w K Q else E := by
  have hw : Region.wanted op (yielded ops a.tmps) = true := by simp [Region.wanted, hgd]
  rw [if_pos hw]
  unfold Oper.wp
  simp [execOp, ho, hx, hy, hrun, Result.andThen]
  rw [Oper.upon_skip, hz]
  exact h
theorem size36 : (Try.prog.info? 36).map (·.size) = some 3 := by kernel_rfl
theorem store36 {w : World} {y : Nat} {v0 v1 v2 : Value} (a : Option Addr) (k c : Nat) (n last : Int) (h : w.heap[y]? = some (.cells #[v0, v1, v2] 36 (0, 0))) :
    (Instr.storeAt 36 (.pointer (some ⟨y, 0, none⟩)) (.agg #[.slice a k c, .int .i64 n, .int .u32 last])).run Try.prog w = .ok () (w.setRow y #[.slice a k c, .int .i64 n, .int .u32 last]) := by
  have := run_storeAt_row w y 0 36 36 [v0, v1, v2] [.slice a k c, .int .i64 n, .int .u32 last] (by simpa using h) (by exact size36) (by simp) (by intro v hv; simp at hv; rcases hv with rfl | rfl | rfl <;> rfl)
  simpa [splice] using this
theorem below_tr' {b : Nat} {w w1 w2 : World} (h : Below b w w1) (h1 : Below b w1 w2) : Below b w w2 := h.trans h1
/-- Three cells of one block. -/
def set3 (w : World) (y : Nat) (a b c : Value) : World := ((w.setCell ⟨y, 0, none⟩ a).setCell ⟨y, 1, none⟩ b).setCell ⟨y, 2, none⟩ c
theorem set3_but (w : World) (y : Nat) (a b c : Value) : But (fun k => k = y) w (set3 w y a b c) := by
  have h := fun (W : World) (i : Nat) (v : Value) => (only_setCell W y i none v).but.mono (T := fun k => k = y) (fun k e => .inl (by rcases e with e | e; exact e; simp at e))
  exact ((h w 0 a).trans (h _ 1 b) (fun k e => .inl e)).trans (h _ 2 c) (fun k e => .inl e)
theorem set3_heap {w : World} {y : Nat} {u0 u1 u2 : Value} {t : TypeId} (a b c : Value) (h : w.heap[y]? = some (.cells #[u0, u1, u2] t (0, 0))) : (set3 w y a b c).heap[y]? = some (.cells #[a, b, c] t (0, 0)) :=
  heap_setCell_same _ _ _ _ _ _ (heap_setCell_same _ _ _ _ _ _ (heap_setCell_same _ _ _ _ _ _ h))
theorem But.cell {S : Nat → Prop} {w w' : World} (h : But S w w') (g i : Nat) (hg : g < w.heap.size) (hs : ¬ S g) : w'.cell? ⟨g, i, none⟩ = w.cell? ⟨g, i, none⟩ := by
  simp only [World.cell?, h.block g hg hs]
set_option maxHeartbeats 2000000 in
theorem where_any {w : World} {g q n last boot : Nat} {segs : List Nat} (h : LogAt w g q segs n last boot) :
    Calls Try.prog 14 #[.pointer (some ⟨g, 0, none⟩)] w fun e w' => ∃ a c, e = .returned (.agg #[.slice a segs.length c, .int .i64 (n : Int), .int .u32 (last : Int)]) ∧ SRow w' a (iv segs) ∧ segs.length ≤ c ∧ c ≤ maxLen ∧ (a = none → c = 0) ∧ Below w.heap.size w w' := by
  obtain ⟨a, c, h1, h2, h3, h4, h5⟩ := h.blk
  have hg := h.glt
  have hlen := h.len
  have hc1 : w.cell? ⟨g, 1, none⟩ = some (.slice a segs.length c) := by rw [cell_of_row w g 1 _ 71 (0, 0) h1]; rfl
  have hc2 := h.c2
  have hc3 := h.c3
  have HW0 : Hid (Below w.heap.size w (w.alloc (.cells #[.slice none 0 0, .int .i64 0, .int .u32 0] 36))) := (Below.refl _ w).alloc (Nat.le_refl _) _
  have hd1 : (w.alloc (.cells #[.slice none 0 0, .int .i64 0, .int .u32 0] 36)).cell? ⟨g, 1, none⟩ = some (.slice a segs.length c) := (HW0.out.cell (p := ⟨g, 1, none⟩) hg).trans hc1
  have hd2 : (w.alloc (.cells #[.slice none 0 0, .int .i64 0, .int .u32 0] 36)).cell? ⟨g, 2, none⟩ = some (.int .i64 (n : Int)) := (HW0.out.cell (p := ⟨g, 2, none⟩) hg).trans hc2
  have hd3 : (w.alloc (.cells #[.slice none 0 0, .int .i64 0, .int .u32 0] 36)).cell? ⟨g, 3, none⟩ = some (.int .u32 (last : Int)) := (HW0.out.cell (p := ⟨g, 3, none⟩) hg).trans hc3
  have HHY : Hid ((w.alloc (.cells #[.slice none 0 0, .int .i64 0, .int .u32 0] 36)).heap[w.heap.size]? = some (.cells #[.slice none 0 0, .int .i64 0, .int .u32 0] 36 (0, 0))) := heap_alloc_new w _
  have HR := hid (h2.below HW0.out)
  have hsz : (w.alloc (.cells #[.slice none 0 0, .int .i64 0, .int .u32 0] 36)).heap.size = w.heap.size + 1 := by simp
  have HZ5 := hid h5
  have HI := hid (iv_len segs)
  generalize hk : segs.length = kk at *
  have HGT := hid hg
  clear h h1 h2 h3 h4 h5 hc1 hc2 hc3 hk
  go_enter Try.func14, Try.ntmps14
  go_wp2_with fail
  generalize w.alloc (.cells #[.slice none 0 0, .int .i64 0, .int .u32 0] 36) = W0 at *
  have HRI := hid (HR.out.irow.below (Below.drew (Below.refl _ W0)))
  go_region_held_law (fun W => W.cell? ⟨g, 1, none⟩ = some (.slice a kk c) ∧ W.cell? ⟨g, 2, none⟩ = some (.int .i64 (n : Int)) ∧ W.cell? ⟨g, 3, none⟩ = some (.int .u32 (last : Int))) (first | exact ⟨hd1, hd2, hd3⟩ | exact S2.out | exact S3.out) (first
    | (go_at_call 28; refine (iclone_any a (iv segs) kk c HI.out HZ5.out HRI.out (by omega)).mono ?_; rintro e w1 ⟨b2, c2, rfl, hs1, hs2, hs3, hs4, hb1⟩
       have hb1 : Below W0.heap.size W0 w1 := below_of_drew hb1
       have S2 := hid (show w1.cell? ⟨g, 1, none⟩ = some (.slice a kk c) ∧ w1.cell? ⟨g, 2, none⟩ = some (.int .i64 (n : Int)) ∧ w1.cell? ⟨g, 3, none⟩ = some (.int .u32 (last : Int)) from ⟨(hb1.cell (p := ⟨g, 1, none⟩) (show g < _ by omega)).trans hd1, (hb1.cell (p := ⟨g, 2, none⟩) (show g < _ by omega)).trans hd2, (hb1.cell (p := ⟨g, 3, none⟩) (show g < _ by omega)).trans hd3⟩)
       have HY1 := hid ((hb1.block w.heap.size (by omega)).trans HHY.out)
       have k0 : w1.cell? ⟨w.heap.size, 0, none⟩ = some (.slice none 0 0) := by rw [cell_of_row w1 _ 0 _ 36 (0, 0) HY1.out]; rfl
       have k1 : w1.cell? ⟨w.heap.size, 1, none⟩ = some (.int .i64 0) := by rw [cell_of_row w1 _ 1 _ 36 (0, 0) HY1.out]; rfl
       have k2 : w1.cell? ⟨w.heap.size, 2, none⟩ = some (.int .u32 0) := by rw [cell_of_row w1 _ 2 _ 36 (0, 0) HY1.out]; rfl
       have f0 : w1.frozen? ⟨w.heap.size, 0, none⟩ = false := frozen_of_row w1 _ 0 _ 36 HY1.out
       have f1 : w1.frozen? ⟨w.heap.size, 1, none⟩ = false := frozen_of_row w1 _ 1 _ 36 HY1.out
       have f2 : w1.frozen? ⟨w.heap.size, 2, none⟩ = false := frozen_of_row w1 _ 2 _ 36 HY1.out
       have hb9 := set3_but w1 w.heap.size (.slice b2 kk c2) (.int .i64 (n : Int)) (.int .u32 (last : Int))
       have hgl : g < w1.heap.size := by have := hb1.size; omega
       have S3 := hid (And.intro ((hb9.cell g 1 hgl (by omega)).trans S2.out.1) (And.intro ((hb9.cell g 2 hgl (by omega)).trans S2.out.2.1) ((hb9.cell g 3 hgl (by omega)).trans S2.out.2.2)))
       clear hb9 hgl
       have HQ := hid (And.intro hs1 (And.intro hs2 (And.intro hs3 hs4)))
       have HB1 := hid (below_tr HW0.out hb1 (by omega))
       clear hs1 hs2 hs3 hs4 hb1))
  have hst := set3_heap (.slice b2 kk c2) (.int .i64 (n : Int)) (.int .u32 (last : Int)) HY1.out
  have hb3 := set3_but w1 w.heap.size (.slice b2 kk c2) (.int .i64 (n : Int)) (.int .u32 (last : Int))
  have HB2 := hid (below_tr' HB1.out (hb3.below (base := w.heap.size) (fun k e => by omega) HB1.out.size))
  have HQ3 := hid (HQ.out.1.but hb3 (noInts_of (fun j e => ⟨36, ⟨_, e ▸ HY1.out⟩, by decide⟩)))
  change _ at hst
  simp only [set3] at hst HB2 HQ3
  generalize ((w1.setCell ⟨w.heap.size, 0, none⟩ (.slice b2 kk c2)).setCell ⟨w.heap.size, 1, none⟩ (.int .i64 (n : Int))).setCell ⟨w.heap.size, 2, none⟩ (.int .u32 (last : Int)) = w2 at *
  clear k0 k1 k2 f0 f1 f2 hb3
  have k0 : w2.cell? ⟨w.heap.size, 0, none⟩ = some (.slice b2 kk c2) := by rw [cell_of_row w2 _ 0 _ 36 (0, 0) hst]; rfl
  have k1 : w2.cell? ⟨w.heap.size, 1, none⟩ = some (.int .i64 (n : Int)) := by rw [cell_of_row w2 _ 1 _ 36 (0, 0) hst]; rfl
  have k2 : w2.cell? ⟨w.heap.size, 2, none⟩ = some (.int .u32 (last : Int)) := by rw [cell_of_row w2 _ 2 _ 36 (0, 0) hst]; rfl
  clear hst
  go_wp2_with fail
  refine bodyPost_ret (v := .agg #[.slice b2 kk c2, .int .i64 (n : Int), .int .u32 (last : Int)]) (by simp [results, Try.results14, go_sem, k0, k1, k2]) rfl ?_
  exact ⟨b2, c2, rfl, HQ3.out, HQ.out.2.1, HQ.out.2.2.1, HQ.out.2.2.2, HB2.out⟩
end Go.Proofs.Yteohjfhflodklaa
