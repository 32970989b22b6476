/- SuperOver: a slot that is written over whatever lay there, of other Numbers, while power goes: the other one is best, or the new one, whatever tears. No condition. -/
import Derived.Test.YtmfmhlhpleahpabSupX
namespace Go.Proofs.Ytmfmhlhpleahpab
open Go.ChangeShapes Go.WideShapes Go.ChangeAt Go.RowKit Pen
open Crc (four nx)
open scoped Classical
set_option linter.constructorNameAsVariable false
theorem cells16 {W : World} {q : Nat} {v0 v1 v2 v3 v4 v5 v6 v7 v8 v9 v10 v11 v12 v13 v14 v15 : Value} {t : TypeId} (h : W.heap[q]? = some (.cells #[v0, v1, v2, v3, v4, v5, v6, v7, v8, v9, v10, v11, v12, v13, v14, v15] t (0, 0))) : W.cell? ⟨q, 0, none⟩ = some v0 ∧ W.cell? ⟨q, 1, none⟩ = some v1 ∧ W.cell? ⟨q, 2, none⟩ = some v2 ∧ W.cell? ⟨q, 3, none⟩ = some v3 ∧ W.cell? ⟨q, 4, none⟩ = some v4 ∧ W.cell? ⟨q, 5, none⟩ = some v5 ∧ W.cell? ⟨q, 6, none⟩ = some v6 ∧ W.cell? ⟨q, 7, none⟩ = some v7 ∧ W.cell? ⟨q, 8, none⟩ = some v8 ∧ W.cell? ⟨q, 9, none⟩ = some v9 ∧ W.cell? ⟨q, 10, none⟩ = some v10 ∧ W.cell? ⟨q, 11, none⟩ = some v11 ∧ W.cell? ⟨q, 12, none⟩ = some v12 ∧ W.cell? ⟨q, 13, none⟩ = some v13 ∧ W.cell? ⟨q, 14, none⟩ = some v14 ∧ W.cell? ⟨q, 15, none⟩ = some v15 :=
  ⟨by rw [cell_of_row W q 0 _ t (0, 0) h]; rfl, by rw [cell_of_row W q 1 _ t (0, 0) h]; rfl, by rw [cell_of_row W q 2 _ t (0, 0) h]; rfl, by rw [cell_of_row W q 3 _ t (0, 0) h]; rfl, by rw [cell_of_row W q 4 _ t (0, 0) h]; rfl, by rw [cell_of_row W q 5 _ t (0, 0) h]; rfl, by rw [cell_of_row W q 6 _ t (0, 0) h]; rfl, by rw [cell_of_row W q 7 _ t (0, 0) h]; rfl, by rw [cell_of_row W q 8 _ t (0, 0) h]; rfl, by rw [cell_of_row W q 9 _ t (0, 0) h]; rfl, by rw [cell_of_row W q 10 _ t (0, 0) h]; rfl, by rw [cell_of_row W q 11 _ t (0, 0) h]; rfl, by rw [cell_of_row W q 12 _ t (0, 0) h]; rfl, by rw [cell_of_row W q 13 _ t (0, 0) h]; rfl, by rw [cell_of_row W q 14 _ t (0, 0) h]; rfl, by rw [cell_of_row W q 15 _ t (0, 0) h]; rfl⟩
theorem size27 : (Try.prog.info? 27).map (·.size) = some 8 := by kernel_rfl
theorem run_alloc27 (w : World) : (Instr.alloc 27 true (.tuple #[])).run Try.prog w = .ok (.pointer (some ⟨w.heap.size, 0, none⟩)) (w.alloc (.cells #[.int .i64 0, .int .i64 0, .slice none 0 0, .int .i64 0, .int .u32 0, .slice none 0 0, .int .i64 0, .int .u32 0] 27)) := by kernel_rfl
theorem store27 (W : World) (n : Nat) (c0 c1 c2 c3 c4 c5 c6 c7 : Value) (h0 : c0.oneCell' = true) (h1 : c1.oneCell' = true) (h2 : c2.oneCell' = true) (h3 : c3.oneCell' = true) (h4 : c4.oneCell' = true) (h5 : c5.oneCell' = true) (h6 : c6.oneCell' = true) (h7 : c7.oneCell' = true) (h : W.heap[n]? = some (.cells #[.int .i64 0, .int .i64 0, .slice none 0 0, .int .i64 0, .int .u32 0, .slice none 0 0, .int .i64 0, .int .u32 0] 27 (0, 0))) :
    (Instr.storeAt 27 (.pointer (some ⟨n, 0, none⟩)) (.agg #[c0, c1, c2, c3, c4, c5, c6, c7])).run Try.prog W = .ok () (W.setRow n #[c0, c1, c2, c3, c4, c5, c6, c7]) := by
  have hst := run_storeAt_row W n 0 27 27 [.int .i64 0, .int .i64 0, .slice none 0 0, .int .i64 0, .int .u32 0, .slice none 0 0, .int .i64 0, .int .u32 0] [c0, c1, c2, c3, c4, c5, c6, c7] h size27 (by simp) (by intro v hv; simp at hv; rcases hv with rfl | rfl | rfl | rfl | rfl | rfl | rfl | rfl <;> assumption)
  rw [splice_all _ _ (by simp)] at hst
  exact hst
def z256 : List Nat := List.replicate 256 0
theorem make256 (w : World) : (Instr.makeSlice 29 (.int .i64 256) (.int .i64 256)).run Try.prog w = .ok (.slice (some ⟨w.heap.size, 0, none⟩) 256 256) (w.alloc (.cells (row8 z256) 5)) := by
  have := run_make_row' 29 5 (.int .u8 0) 1 Try.underlying29 info5 rfl .i64 .i64 256 (by omega) (by omega) w
  rw [made_row8] at this
  exact this
theorem At2.row {w v : World} {m n : Nat} {x y : Array Value} (h : At2 w m n x y v) (g : Nat) (cs : Array Value) (h1 : m ≠ g) (h2 : n ≠ g) (h3 : w.heap.size ≤ g) : At2 w m n x y (v.setRow g cs) :=
  ⟨(setRow_other _ _ _ _ h1).trans h.bx, (setRow_other _ _ _ _ h2).trans h.bY, below_setRow h.low h3 _, h.ne, h.gm, h.gn⟩
theorem from_mid (g k : Nat) (h : k < 256) : fromA (some ⟨g, 0, none⟩) k 256 = some ⟨g, k, none⟩ := by
  simp only [fromA, if_neg (show ¬ 256 = k by omega), Option.map_some, Addr.add]
  split
  · next h => rw [h]
  · simp
theorem piece_get (O : List Nat) (i j : Nat) (hj : j < 64) : (piece O i).getD j 0 = O.getD (i * 64 + j) 0 := by
  unfold piece
  rw [List.getD_eq_getElem?_getD, List.getElem?_take, if_pos hj, List.getElem?_drop, ← List.getD_eq_getElem?_getD, Nat.mul_comm 64 i]
/-- The disk while the old bytes are written, i of four sectors. -/
structure Laying (O : List Nat) (k i : Nat) (d : Dk) : Prop where
  lay : layFrom 1 O k d = layFrom 1 O 4 (fresh 8)
  dead : d.dead = false
  fuse : d.fuse = none
  ops : d.ops = i
  len : d.secs.length = 8
theorem Laying.step {O : List Nat} {k i : Nat} {d : Dk} (h : Laying O (k + 1) i d) (hi : i + (k + 1) = 4) : Laying O k (i + 1) (d.lay (4 + i) (piece O i)) := by
  refine ⟨?_, h.dead, h.fuse, by show d.ops + 1 = _; rw [h.ops], by rw [lay_len, h.len]⟩
  rw [← h.lay, layFrom, show 3 - k = i by omega, show 1 * 4 + i = 4 + i by omega]
  rfl
theorem getD_lt8 {l : List Nat} (h : ∀ x ∈ l, x < 256) (i : Nat) : l.getD i 0 < 256 := by
  by_cases hi : i < l.length
  · rw [List.getD_eq_getElem?_getD, List.getElem?_eq_getElem hi]; exact h _ (List.getElem_mem hi)
  · rw [List.getD_eq_getElem?_getD, List.getElem?_eq_none (by omega)]; decide
/-- What is copied over noughts. -/
def fillO (T : List Nat) : List Nat := T ++ List.replicate (256 - T.length) 0
theorem splice_fill (T : List Nat) : splice (vals z256) 0 (vals T) = vals (fillO T) := by
  have e := vals_over z256 0 T
  rw [e]
  unfold over fillO z256
  rw [List.take_zero, List.nil_append, Nat.zero_add, List.drop_replicate]
theorem fillO_len (T : List Nat) (h : T.length ≤ 256) : (fillO T).length = 256 := by simp [fillO]; omega
theorem fillO_lt (T : List Nat) (h : ∀ x ∈ T, x < 256) : ∀ x ∈ fillO T, x < 256 := by
  intro x hx
  rcases List.mem_append.1 hx with hx | hx
  · exact h x hx
  · rw [(List.mem_replicate.1 hx).2]; decide
set_option maxRecDepth 20000 in
set_option maxHeartbeats 8000000 in
theorem superOver_walk (w : World) (c0 : Array Value) (a : Sp) (h0 : SupIn w (.agg c0) a) (c1 : Array Value) (b : Sp) (h1 : SupIn w (.agg c1) b) (ao : Option Addr) (lo capo : Nat) (old : List Nat) (hro : Row w ao old) (hlo : old.length = lo) (ad : Option Addr) (len cap : Nat) (ch : List Nat) (hr : Row w ad ch) (hl : ch.length = len) :
    Calls Try.prog 3 #[.agg (c0 ++ c1), .slice ao lo capo, .slice ad len cap] w fun e w' => e = .returned (.bool true) ∧ Below w.heap.size w w' := by
  have hnil := neq_nil
  obtain ⟨nb, bt, aj, nj, cj, lj, kj, ac, nc, cc, lc, kc, sj, sc, hv, -, hj, hnj, hc, hnc, hkj, hkc, hmj, hmc⟩ := h0
  obtain rfl : c0 = #[.int .i64 nb, .int .i64 bt, .slice aj nj cj, .int .i64 lj, .int .u32 (kj : Int), .slice ac nc cc, .int .i64 lc, .int .u32 (kc : Int)] := by simpa using hv
  clear hv
  obtain ⟨nb', bt', aj', nj', cj', lj', kj', ac', nc', cc', lc', kc', sj', sc', hv', -, hj', hnj', hc', hnc', hkj', hkc', hmj', hmc'⟩ := h1
  obtain rfl : c1 = #[.int .i64 nb', .int .i64 bt', .slice aj' nj' cj', .int .i64 lj', .int .u32 (kj' : Int), .slice ac' nc' cc', .int .i64 lc', .int .u32 (kc' : Int)] := by simpa using hv'
  clear hv'
  show Calls Try.prog 3 #[.agg #[.int .i64 nb, .int .i64 bt, .slice aj nj cj, .int .i64 lj, .int .u32 (kj : Int), .slice ac nc cc, .int .i64 lc, .int .u32 (kc : Int), .int .i64 nb', .int .i64 bt', .slice aj' nj' cj', .int .i64 lj', .int .u32 (kj' : Int), .slice ac' nc' cc', .int .i64 lc', .int .u32 (kc' : Int)], .slice ao lo capo, .slice ad len cap] w _
  obtain ⟨A, hA⟩ : ∃ A : Sp, A = ⟨5, bt, ⟨sj, lj, kj⟩, ⟨sc, lc, kc⟩⟩ := ⟨_, rfl⟩
  obtain ⟨B, hB⟩ : ∃ B : Sp, B = ⟨6, bt', ⟨sj', lj', kj'⟩, ⟨sc', lc', kc'⟩⟩ := ⟨_, rfl⟩
  have HSA := hid hA
  have HSB := hid hB
  obtain ⟨w2, hw2⟩ : ∃ w2, w2 = w.alloc (.cells #[.int .i64 nb, .int .i64 bt, .slice aj nj cj, .int .i64 lj, .int .u32 (kj : Int), .slice ac nc cc, .int .i64 lc, .int .u32 (kc : Int), .int .i64 nb', .int .i64 bt', .slice aj' nj' cj', .int .i64 lj', .int .u32 (kj' : Int), .slice ac' nc' cc', .int .i64 lc', .int .u32 (kc' : Int)] 28) := ⟨_, rfl⟩
  have HB2 : Hid (Below w.heap.size w w2) := by rw [hw2]; exact (Below.refl _ _).alloc (Nat.le_refl _) _
  have HQ2 : Hid (w2.heap[w.heap.size]? = some (.cells #[.int .i64 nb, .int .i64 bt, .slice aj nj cj, .int .i64 lj, .int .u32 (kj : Int), .slice ac nc cc, .int .i64 lc, .int .u32 (kc : Int), .int .i64 nb', .int .i64 bt', .slice aj' nj' cj', .int .i64 lj', .int .u32 (kj' : Int), .slice ac' nc' cc', .int .i64 lc', .int .u32 (kc' : Int)] 28 (0, 0))) := by rw [hw2]; exact heap_alloc_new _ _
  have HW2 := hid hw2
  have HA := hid (And.intro hj (And.intro hnj (And.intro hc (And.intro hnc (And.intro hkj hkc)))))
  have HA' := hid (And.intro hj' (And.intro hnj' (And.intro hc' (And.intro hnc' (And.intro hkj' hkc')))))
  have HR := hid (And.intro hr hl)
  have HRO := hid (And.intro hro hlo)
  clear hj hnj hc hnc hkj hkc hmj hmc hj' hnj' hc' hnc' hkj' hkc' hmj' hmc' hA hB hr hl hro hlo hw2
  go_enter Try.func3, Try.ntmps3
  go_wp2_with fail
  rw [← HW2.out]
  refine (awake_any _).mono ?_
  rintro e w3 ⟨rfl, hb3⟩
  have HB3 := hid (HB2.out.trans (hb3.mono HB2.out.size))
  have HQ3 := hid ((hb3.block _ (Array.getElem?_eq_some_iff.1 HQ2.out).1).trans HQ2.out)
  clear hb3 HB2 HQ2 HW2
  obtain ⟨q0, hq0⟩ : ∃ q0, w.heap.size = q0 := ⟨_, rfl⟩
  rw [hq0] at HQ3 ⊢
  have HWQ := hid hq0
  clear hq0
  go_wp2_with fail
  refine wp_region_held_drew (S := fun W => W.heap[q0]? = some (.cells #[.int .i64 nb, .int .i64 bt, .slice aj nj cj, .int .i64 lj, .int .u32 (kj : Int), .slice ac nc cc, .int .i64 lc, .int .u32 (kc : Int), .int .i64 nb', .int .i64 bt', .slice aj' nj' cj', .int .i64 lj', .int .u32 (kj' : Int), .slice ac' nc' cc', .int .i64 lc', .int .u32 (kc' : Int)] 28 (0, 0))) (by kernel_rfl) (show w3.drew.heap[q0]? = _ from HQ3.out) (fun hHeld => ?_)
  refine take_op 0 (some 20) (.pointer (some ⟨q0, 0, none⟩)) rfl rfl (by kernel_rfl) (by kernel_rfl) (by kernel_rfl) (fun _ _ _ h => h) (by rfl) hHeld (fun W hW => ?_) ?_
  · obtain ⟨h0, h1, h2, h3, h4, h5, h6, h7, h8, h9, h10, h11, h12, h13, h14, h15⟩ := cells16 hW
    clear hHeld
    go_simp
  simp only [Act.put, List.setIfInBounds_toArray, List.set_cons_zero, List.set_cons_succ]
  refine take_op 1 (some 21) (.agg #[.int .i64 nb, .int .i64 bt, .slice aj nj cj, .int .i64 lj, .int .u32 (kj : Int), .slice ac nc cc, .int .i64 lc, .int .u32 (kc : Int)]) rfl rfl (by kernel_rfl) (by kernel_rfl) (by kernel_rfl) (fun _ _ _ h => h) (by rfl) hHeld (fun W hW => ?_) ?_
  · obtain ⟨h0, h1, h2, h3, h4, h5, h6, h7, h8, h9, h10, h11, h12, h13, h14, h15⟩ := cells16 hW
    clear hHeld
    go_simp
  simp only [Act.put, List.setIfInBounds_toArray, List.set_cons_zero, List.set_cons_succ]
  refine take_op 2 (some 22) (.pointer (some ⟨q0, 8, none⟩)) rfl rfl (by kernel_rfl) (by kernel_rfl) (by kernel_rfl) (fun _ _ _ h => h) (by rfl) hHeld (fun W hW => ?_) ?_
  · obtain ⟨h0, h1, h2, h3, h4, h5, h6, h7, h8, h9, h10, h11, h12, h13, h14, h15⟩ := cells16 hW
    clear hHeld
    go_simp
  simp only [Act.put, List.setIfInBounds_toArray, List.set_cons_zero, List.set_cons_succ]
  refine take_op 3 (some 23) (.agg #[.int .i64 nb', .int .i64 bt', .slice aj' nj' cj', .int .i64 lj', .int .u32 (kj' : Int), .slice ac' nc' cc', .int .i64 lc', .int .u32 (kc' : Int)]) rfl rfl (by kernel_rfl) (by kernel_rfl) (by kernel_rfl) (fun _ _ _ h => h) (by rfl) hHeld (fun W hW => ?_) ?_
  · obtain ⟨h0, h1, h2, h3, h4, h5, h6, h7, h8, h9, h10, h11, h12, h13, h14, h15⟩ := cells16 hW
    clear hHeld
    go_simp
  simp only [Act.put, List.setIfInBounds_toArray, List.set_cons_zero, List.set_cons_succ]
  refine two_new 4 5 6 7 rfl rfl rfl rfl (by kernel_rfl) (by kernel_rfl) (by kernel_rfl) (by kernel_rfl) (by kernel_rfl) (by kernel_rfl) rfl rfl rfl rfl 27 7 8 _ _ _ _ rfl rfl rfl rfl rfl rfl rfl rfl _ #[.int .i64 nb, .int .i64 bt, .slice aj nj cj, .int .i64 lj, .int .u32 (kj : Int), .slice ac nc cc, .int .i64 lc, .int .u32 (kc : Int)] #[.int .i64 nb', .int .i64 bt', .slice aj' nj' cj', .int .i64 lj', .int .u32 (kj' : Int), .slice ac' nc' cc', .int .i64 lc', .int .u32 (kc' : Int)] (.agg #[.int .i64 nb, .int .i64 bt, .slice aj nj cj, .int .i64 lj, .int .u32 (kj : Int), .slice ac nc cc, .int .i64 lc, .int .u32 (kc : Int)]) (.agg #[.int .i64 nb', .int .i64 bt', .slice aj' nj' cj', .int .i64 lj', .int .u32 (kj' : Int), .slice ac' nc' cc', .int .i64 lc', .int .u32 (kc' : Int)]) run_alloc27 (fun _ _ => rfl) (fun _ _ => ⟨rfl, rfl, rfl, rfl⟩) (fun W n h => store27 W n _ _ _ _ _ _ _ _ rfl rfl rfl rfl rfl rfl rfl rfl h) (fun W n h => store27 W n _ _ _ _ _ _ _ _ rfl rfl rfl rfl rfl rfl rfl rfl h) (fun W hb => (hb.block q0 (Array.getElem?_eq_some_iff.1 HQ3.out).1).trans HQ3.out) ?_
  intro n7 n8 w4 hx7 hx8 hb4 hne g7 g8
  have HT4 : Hid (At2 w n7 n8 #[.int .i64 nb, .int .i64 bt, .slice aj nj cj, .int .i64 lj, .int .u32 (kj : Int), .slice ac nc cc, .int .i64 lc, .int .u32 (kc : Int)] #[.int .i64 nb', .int .i64 bt', .slice aj' nj' cj', .int .i64 lj', .int .u32 (kj' : Int), .slice ac' nc' cc', .int .i64 lc', .int .u32 (kc' : Int)] w4) := by
    have hs := HB3.out.size
    have hb4' : Below w3.heap.size w3 w4 := ⟨hb4.os, hb4.tape, hb4.output, hb4.size, hb4.block⟩
    have g7' : w3.heap.size ≤ n7 := g7
    have g8' : w3.heap.size ≤ n8 := g8
    exact ⟨hx7, hx8, HB3.out.trans (hb4'.mono hs), hne, by omega, by omega⟩
  have HNE := hid hne
  clear hx7 hx8 hb4 hne g7 g8 hHeld HQ3 HB3
  refine wpAnyH_done (by kernel_rfl) ?_ _
  simp only [Act.put, List.setIfInBounds_toArray, List.set_cons_zero, List.set_cons_succ]
  have hm7 : (w4.setCell ⟨n7, 0, none⟩ (.int .i64 5)).heap[n8]? = some (.cells #[.int .i64 nb', .int .i64 bt', .slice aj' nj' cj', .int .i64 lj', .int .u32 (kj' : Int), .slice ac' nc' cc', .int .i64 lc', .int .u32 (kc' : Int)] 27 (0, 0)) := (Below.heap_setCell _ _ _ _ (Ne.symm HNE.out)).trans HT4.out.bY
  have z0 := HT4.out.fr.1
  have z1 := frozen_of_row _ n8 0 _ 27 hm7
  have y0 := (cells8 HT4.out.bx).1
  have y1 := (cells8 hm7).1
  have hT5 : At2 w n7 n8 #[.int .i64 5, .int .i64 bt, .slice aj nj cj, .int .i64 lj, .int .u32 (kj : Int), .slice ac nc cc, .int .i64 lc, .int .u32 (kc : Int)] #[.int .i64 6, .int .i64 bt', .slice aj' nj' cj', .int .i64 lj', .int .u32 (kj' : Int), .slice ac' nc' cc', .int .i64 lc', .int .u32 (kc' : Int)] ((w4.setCell ⟨n7, 0, none⟩ (.int .i64 5)).setCell ⟨n8, 0, none⟩ (.int .i64 6)) := HT4.out.set (.int .i64 5) (.int .i64 6)
  have HT5 := hid hT5
  obtain ⟨e0, e1, e2, e3, e4, e5, e6, e7⟩ := cells8 hT5.bx
  obtain ⟨f0, f1, f2, f3, f4, f5, f6, f7⟩ := cells8 hT5.bY
  clear hT5 hm7 HT4
  by_cases l0 : 1000 < lo
  · have g0 : (1000 : Int) < (lo : Int) := by omega
    go_wp2_with fail
    go_ret
    exact ⟨rfl, HT5.out.low⟩
  have g0 : ¬ (1000 : Int) < (lo : Int) := by omega
  by_cases l1 : 100 < len
  · have g1 : (100 : Int) < (len : Int) := by omega
    go_wp2_with fail
    go_ret
    exact ⟨rfl, HT5.out.low⟩
  have g1 : ¬ (100 : Int) < (len : Int) := by omega
  by_cases l2 : 100 < nj
  · have g2 : (100 : Int) < (nj : Int) := by omega
    go_wp2_with fail
    go_ret
    exact ⟨rfl, HT5.out.low⟩
  have g2 : ¬ (100 : Int) < (nj : Int) := by omega
  by_cases l3 : 100 < nj'
  · have g3 : (100 : Int) < (nj' : Int) := by omega
    go_wp2_with fail
    go_ret
    exact ⟨rfl, HT5.out.low⟩
  have g3 : ¬ (100 : Int) < (nj' : Int) := by omega
  by_cases l4 : 100 < nc
  · have g4 : (100 : Int) < (nc : Int) := by omega
    go_wp2_with fail
    go_ret
    exact ⟨rfl, HT5.out.low⟩
  have g4 : ¬ (100 : Int) < (nc : Int) := by omega
  by_cases l5 : 100 < nc'
  · have g5 : (100 : Int) < (nc' : Int) := by omega
    go_wp2_with fail
    go_ret
    exact ⟨rfl, HT5.out.low⟩
  have g5 : ¬ (100 : Int) < (nc' : Int) := by omega
  have hMA := fun W (hW : Below w.heap.size w W) => refMay_any W 5 bt aj nj cj lj kj ac nc cc lc kc sj sc (HA.out.1.below hW) HA.out.2.1 (HA.out.2.2.1.below hW) HA.out.2.2.2.1 (by omega) 96 A HSA.out
  have hMB := fun W (hW : Below w.heap.size w W) => refMay_any W 6 bt' aj' nj' cj' lj' kj' ac' nc' cc' lc' kc' sj' sc' (HA'.out.1.below hW) HA'.out.2.1 (HA'.out.2.2.1.below hW) HA'.out.2.2.2.1 (by omega) 96 B HSB.out
  have HMA := hid hMA
  have HMB := hid hMB
  clear hMA hMB
  have HGS := hid (And.intro l0 (And.intro l1 (And.intro l2 (And.intro l3 (And.intro l4 l5)))))
  go_wp2_with fail
  generalize (w4.setCell ⟨n7, 0, none⟩ (.int .i64 5)).setCell ⟨n8, 0, none⟩ (.int .i64 6) = w5 at HT5 ⊢
  clear e0 e1 e2 e3 e4 e5 e6 e7 f0 f1 f2 f3 f4 f5 f6 f7 z0 z1 y0 y1 g0 g1 g2 g3 g4 g5 l0 l1 l2 l3 l4 l5
  cases hra : A.refMay 96
  · rw [hra] at HMA
    clear hra
    refine (HMA.out _ HT5.out.low).mono ?_
    rintro e w6 ⟨rfl, hb6⟩
    have HT6 := hid (HT5.out.below hb6)
    clear hb6
    go_wp2_with fail
    go_ret
    exact ⟨rfl, HT6.out.low⟩
  have HOA := hid ((refMay96 A).1 hra)
  rw [hra] at HMA
  clear hra
  refine (HMA.out _ HT5.out.low).mono ?_
  rintro e w6 ⟨rfl, hb6⟩
  have HT6 := hid (HT5.out.below hb6)
  clear hb6 HT5 HMA
  obtain ⟨f0, f1, f2, f3, f4, f5, f6, f7⟩ := cells8 HT6.out.bY
  cases hrb : B.refMay 96
  · rw [hrb] at HMB
    clear hrb
    go_wp2_with fail
    refine (HMB.out _ HT6.out.low).mono ?_
    rintro e w7 ⟨rfl, hb7⟩
    have HT7 := hid (HT6.out.below hb7)
    clear hb7
    go_wp2_with fail
    go_ret
    exact ⟨rfl, HT7.out.low⟩
  have HOB := hid ((refMay96 B).1 hrb)
  rw [hrb] at HMB
  clear hrb
  go_wp2_with fail
  refine (HMB.out _ HT6.out.low).mono ?_
  rintro e w7 ⟨rfl, hb7⟩
  have HT7 := hid (HT6.out.below hb7)
  clear hb7 HT6 HMB f0 f1 f2 f3 f4 f5 f6 f7
  go_wp2_with fail
  refine (new8 _).mono ?_
  rintro e w8 ⟨q, rfl, p, hd8, hb8, hq8, hp8⟩
  have HT8 := hid (HT7.out.below hb8)
  have HQP : Hid ((n7 < q ∧ n8 < q) ∧ n7 < p ∧ n8 < p) := by have := HT7.out.lt; show _ ∧ _; omega
  have HD8 := hid hd8
  clear hd8 hb8 hq8 hp8 HT7
  have hb9 : Below w8.heap.size w8 (w8.alloc (.cells (row8 z256) 5)) := (Below.refl _ _).alloc (Nat.le_refl _) _
  have HT9 := hid (HT8.out.below hb9)
  have HD9 := hid (HD8.out.below hb9)
  have HZ9 : Hid ((w8.alloc (.cells (row8 z256) 5)).heap[w8.heap.size]? = some (.cells (row8 z256) 5 (0, 0))) := heap_alloc_new _ _
  have HG : Hid (w.heap.size ≤ w8.heap.size ∧ n7 < w8.heap.size ∧ n8 < w8.heap.size) := ⟨HT8.out.low.size, HT8.out.lt⟩
  have hkm := make256
  obtain ⟨T, hT⟩ : ∃ T, T = old.take 256 := ⟨_, rfl⟩
  have HTN : Hid (T.length = Nat.min lo 256) := by show _ = _; rw [hT, List.length_take, HRO.out.2]; exact Nat.min_comm _ _
  have HTR : Hid (Row (w8.alloc (.cells (row8 z256) 5)) ao T) := by rw [hT]; exact row_take (HRO.out.1.below HT9.out.low) 256
  have HT256 : Hid (T.length ≤ 256 ∧ ∀ x ∈ T, x < 256) := ⟨by rw [hT, List.length_take]; omega, by rw [hT]; exact fun x hx => HRO.out.1.1 x (List.mem_of_mem_take hx)⟩
  have HQG : Hid (q < w8.heap.size ∧ p < w8.heap.size) := HD8.out.lt
  clear hb9 HT8 HD8 hT
  obtain ⟨g, hg⟩ : ∃ g, w8.heap.size = g := ⟨_, rfl⟩
  rw [hg] at HZ9 HG HQG
  obtain ⟨w9, hw9⟩ : ∃ w9, w9 = w8.alloc (.cells (row8 z256) 5) := ⟨_, rfl⟩
  rw [← hw9] at HT9 HD9 HZ9 HTR
  have HW9 := hid hw9
  have HGE := hid hg
  clear hw9 hg
  obtain ⟨O, hO⟩ : ∃ O, O = fillO T := ⟨_, rfl⟩
  obtain ⟨w10, hw10⟩ : ∃ w10, w10 = w9.setRow g (splice (vals z256) 0 (vals T)).toArray := ⟨_, rfl⟩
  have HW10 := hid hw10
  rw [splice_fill, ← hO] at hw10
  have hZ9 : w9.heap[g]? = some (.cells (vals z256).toArray 5 (0, 0)) := HZ9.out
  have HU10 : Hid (Buf w10 g O) := by rw [hw10, hO]; exact ⟨setRow_heap _ _ _ _ _ _ hZ9, fillO_lt T HT256.out.2⟩
  have HT10 : Hid (At2 w n7 n8 #[.int .i64 5, .int .i64 bt, .slice aj nj cj, .int .i64 lj, .int .u32 (kj : Int), .slice ac nc cc, .int .i64 lc, .int .u32 (kc : Int)] #[.int .i64 6, .int .i64 bt', .slice aj' nj' cj', .int .i64 lj', .int .u32 (kj' : Int), .slice ac' nc' cc', .int .i64 lc', .int .u32 (kc' : Int)] w10) := by rw [hw10]; exact HT9.out.row g _ (by have := HG.out; omega) (by have := HG.out; omega) HG.out.1
  have HD10 : Hid (DiskAt w10 q p (fresh 8)) := by rw [hw10]; exact HD9.out.kept (setRow_other _ _ _ _ (by have := HQG.out; omega)) (setRow_other _ _ _ _ (by have := HQG.out; omega))
  have HOL : Hid (O.length = 256 ∧ ∀ x ∈ O, x < 256) := by rw [hO]; exact ⟨fillO_len T HT256.out.1, fillO_lt T HT256.out.2⟩
  have HZC := hid hZ9
  have HFT : Hid (0 + T.length ≤ (vals z256).length) := by have h := HT256.out.1; show 0 + T.length ≤ (vals z256).length; rw [vals_len, z256, List.length_replicate]; omega
  clear hw10 hO hZ9 HT9 HD9 HZ9
  rw [HW9.out] at HZC HTR HW10
  rw [← HGE.out] at HZC HW10
  have tok : True := trivial
  go_wp2_with (have _t := tok; refine step_copy rfl _ _ rfl w8.heap.size 0 256 256 ao lo capo rfl rfl (vals z256) 5 HZC.out T HTN.out HTR.out HFT.out ?_; intro w' hw'; obtain rfl := HW10.out.trans hw'.symm; clear tok hw')
  rw [HGE.out]
  clear HZC HTR HTN HW10 HFT HT256 hkm HW9
  go_loopg [12] 4 (fun gk v12 wr => ∃ (i : Nat) (d : Dk), i + gk = 4 ∧ v12 = .int .i64 (i : Int) ∧ DiskAt wr q p d ∧ Laying O gk i d ∧ (∀ j, j < i → (piece O j).getD 0 0 ≠ 6 ∧ (piece O j).getD 60 0 ≠ 6) ∧ At2 w n7 n8 #[.int .i64 5, .int .i64 bt, .slice aj nj cj, .int .i64 lj, .int .u32 (kj : Int), .slice ac nc cc, .int .i64 lc, .int .u32 (kc : Int)] #[.int .i64 6, .int .i64 bt', .slice aj' nj' cj', .int .i64 lj', .int .u32 (kj' : Int), .slice ac' nc' cc', .int .i64 lc', .int .u32 (kc' : Int)] wr ∧ Buf wr g O)
  case atStart => exact ⟨0, fresh 8, rfl, rfl, HD10.out, ⟨rfl, rfl, rfl, rfl, (fresh_rest 8).1⟩, fun j hj => by omega, HT10.out, HU10.out⟩
  case round =>
    obtain ⟨i, d, hi, rfl, hd, hly, hno, ht2, hbu⟩ := hrel
    have HD := hid hd
    have HLY := hid hly
    have HNO := hid hno
    have HT := hid ht2
    have HU := hid hbu
    clear hd hly hno ht2 hbu HD10 HT10 HU10
    by_cases hi4 : i < 4
    · have hii : (i : Int) < 4 := by omega
      obtain ⟨k, rfl⟩ : ∃ k, gk = k + 1 := ⟨gk - 1, by omega⟩
      have hsl : ∀ w, (Instr.slice 29 (.slice (some ⟨g, 0, none⟩) 256 256) (some (.int .i64 ((i : Int) * 64))) (some (.int .i64 (((i : Int) + 1) * 64))) none).run Try.prog w = .ok (.slice (some ⟨g, i * 64, none⟩) 64 (256 - i * 64)) w := fun w => by
        have h := slice_mid w (some ⟨g, 0, none⟩) 256 256 (i * 64) ((i + 1) * 64) (by omega) (by omega)
        rw [from_mid g (i * 64) (by omega), show (i + 1) * 64 - i * 64 = 64 by omega, show ((i * 64 : Nat) : Int) = (i : Int) * 64 by omega, show (((i + 1) * 64 : Nat) : Int) = ((i : Int) + 1) * 64 by omega] at h
        exact h
      have c0 := HU.out.cell (i * 64) (by rw [HOL.out.1]; omega)
      have c60 := HU.out.cell (i * 64 + 60) (by rw [HOL.out.1]; omega)
      have b0 := getD_lt8 HOL.out.2 (i * 64)
      have b60 := getD_lt8 HOL.out.2 (i * 64 + 60)
      have HP0 := hid (piece_get O i 0 (by decide))
      have HP60 := hid (piece_get O i 60 (by decide))
      rw [Nat.add_zero] at HP0
      have HRW : Hid (Row wr (some ⟨g, i * 64, none⟩) (piece O i)) := by
        have h := row_take (row_drop HU.out.row (i * 64) 256 (by rw [HOL.out.1]; exact Nat.le_refl _)) 64
        rw [from_mid g (i * 64) (by omega), Nat.mul_comm i 64] at h
        show Row _ _ _
        rw [Nat.mul_comm i 64]
        exact h
      have HPL := hid (piece_len HOL.out.1 i hi4)
      have HWF := hid (write_free HLY.out.dead HLY.out.fuse (4 + i) (by rw [HLY.out.len]; omega) (piece O i) (piece_len HOL.out.1 i hi4))
      generalize O.getD (i * 64) 0 = x0 at *
      generalize O.getD (i * 64 + 60) 0 = x60 at *
      have HLW := hid HT.out.low
      by_cases hx0 : x0 = 6
      · have t0 : ((x0 : Int) == 6) = true := by simp; omega
        clear hx0
        go_wp2_with fail
        go_ret
        exact ⟨rfl, HLW.out⟩
      have t0 : ((x0 : Int) == 6) = false := by simp; omega
      by_cases hx60 : x60 = 6
      · have t60 : ((x60 : Int) == 6) = true := by simp; omega
        clear hx60 hx0
        go_wp2_with fail
        go_ret
        exact ⟨rfl, HLW.out⟩
      have t60 : ((x60 : Int) == 6) = false := by simp; omega
      have HXX := hid (And.intro hx0 hx60)
      clear hx0 hx60
      go_wp2_with fail
      have kw := write_any HD.out (by rw [HLY.out.ops]; omega) (4 + (i : Int)) (some ⟨g, i * 64, none⟩) (piece O i) 64 (256 - i * 64) HRW.out HPL.out
      rw [show (4 + (i : Int)) = ((4 + i : Nat) : Int) by omega, HWF.out] at kw
      rw [show (4 + (i : Int)) = ((4 + i : Nat) : Int) by omega]
      refine kw.mono ?_
      rintro e wx ⟨rfl, hdx, hox⟩
      have HDX : Hid (DiskAt wx q p (d.lay (4 + i) (piece O i))) := hdx
      have HTX := hid (HT.out.only hox HQP.out.1 HQP.out.2)
      have HUX := hid (HU.out.kept_disk HD.out hox)
      clear kw hdx hox c0 c60 hsl
      go_wp2_with fail
      go_roundg k
      case measure => omega
      case rel =>
        refine ⟨i + 1, _, by omega, by go_num, HDX.out, HLY.out.step hi, ?_, HTX.out, HUX.out⟩
        intro j hj
        rcases Nat.lt_succ_iff_lt_or_eq.1 hj with h | rfl
        · exact HNO.out j h
        · rw [HP0.out, HP60.out]; exact HXX.out
    · have hii : ¬ (i : Int) < 4 := by omega
      obtain rfl : i = 4 := by omega
      obtain rfl : gk = 0 := by omega
      obtain rfl : d = layFrom 1 O 4 (fresh 8) := HLY.out.lay
      have kp := parse_any wr (some ⟨g, 0, none⟩) O 256 256 HU.out.row HOL.out.1 (Nat.le_refl _) 96
      cases hpa : parse O 96 with
      | some sp =>
        rw [hpa] at kp
        have HKP := hid kp
        clear kp hpa
        go_wp2_with fail
        refine HKP.out.mono ?_
        rintro e wp ⟨hpar, hbp⟩
        obtain ⟨xj, yj, zj, xc, yc, zc, rfl, -, -, -, -, -, -⟩ := hpar
        have HLW := hid (HT.out.below hbp).low
        have HLQ : Hid (w.heap.size ≤ wp.heap.size) := HLW.out.size
        clear hbp HKP
        go_wp2_with fail
        go_ret
        exact ⟨rfl, HLW.out.alloc HLQ.out _⟩
      | none =>
        rw [hpa] at kp
        have HKP := hid kp
        have HPA := hid hpa
        clear kp hpa
        go_wp2_with fail
        refine HKP.out.mono ?_
        rintro e wp ⟨hpar, hbp⟩
        obtain rfl := hpar
        have hbal : Below wp.heap.size wp (wp.alloc (.cells #[.int .i64 0, .int .i64 0, .slice none 0 0, .int .i64 0, .int .u32 0, .slice none 0 0, .int .i64 0, .int .u32 0] 39)) := (Below.refl _ _).alloc (Nat.le_refl _) _
        have HT7 := hid ((HT.out.below hbp).below hbal)
        have HD7 := hid ((HD.out.below hbp).below hbal)
        clear hbp hbal HKP HU
        obtain ⟨e0, e1, e2, e3, e4, e5, e6, e7⟩ := cells8 HT7.out.bx
        go_wp2_with fail
        generalize wp.alloc (.cells #[.int .i64 0, .int .i64 0, .slice none 0 0, .int .i64 0, .int .u32 0, .slice none 0 0, .int .i64 0, .int .u32 0] 39) = wb at HT7 HD7 ⊢
        clear e0 e1 e2 e3 e4 e5 e6 e7
        refine (made_any _ 5 bt aj nj cj lj kj ac nc cc lc kc).mono ?_
        rintro e v8 ⟨rfl, hb8⟩
        have HT8 := hid (HT7.out.below hb8)
        have HD8 := hid (HD7.out.below hb8)
        clear hb8 HT7 HD7
        unfold spV
        go_wp2_with fail
        refine (writeS_ok HD8.out rfl rfl (by show 4 ≤ 1000000; decide) 0 (by decide) (by rw [layFrom_len, (fresh_rest 8).1]; decide) 5 bt aj nj cj lj kj ac nc cc lc kc sj sc (HA.out.1.below HT8.out.low) HA.out.2.1 (by have := HGS.out; omega) (HA.out.2.2.1.below HT8.out.low) HA.out.2.2.2.1 (by have := HGS.out; omega) HA.out.2.2.2.2.1 HA.out.2.2.2.2.2 A HSA.out HOA.out).mono ?_
        rintro e v9 ⟨rfl, hd9, ho9⟩
        have HT9 := hid (HT8.out.only ho9 HQP.out.1 HQP.out.2)
        have HD9 := hid hd9
        clear hd9 ho9 HT8 HD8
        go_wp2_with fail
        have kf := flush_any HD9.out (by show 8 < 1000000000; decide)
        rw [flush_free rfl rfl] at kf
        refine kf.mono ?_
        rintro e v10 ⟨rfl, hd10, ho10⟩
        have HT10 := hid (HT9.out.only ho10 HQP.out.1 HQP.out.2)
        have HD10 : Hid (DiskAt v10 q p (layFrom 0 A.bytes 4 (layFrom 1 O 4 (fresh 8))).flushed) := hd10
        clear hd10 ho10 HT9 HD9 kf
        obtain ⟨f0, f1, f2, f3, f4, f5, f6, f7⟩ := cells8 HT10.out.bY
        go_wp2_with fail
        refine (made_any _ 6 bt' aj' nj' cj' lj' kj' ac' nc' cc' lc' kc').mono ?_
        rintro e v11 ⟨rfl, hb11⟩
        have HT11 := hid (HT10.out.below hb11)
        have HD11 := hid (HD10.out.below hb11)
        clear hb11 HT10 HD10 f0 f1 f2 f3 f4 f5 f6 f7
        unfold spV
        go_wp2_with fail
        have hlen8 : ((layFrom 0 A.bytes 4 (layFrom 1 O 4 (fresh 8))).flushed).secs.length = 8 := by
          show ((layFrom 0 A.bytes 4 (layFrom 1 O 4 (fresh 8))).secs.map clean).length = 8
          rw [List.length_map, over_in]
        refine (writeS_ok HD11.out rfl rfl (by show 9 ≤ 1000000; decide) 1 (by decide) (by rw [hlen8]; decide) 6 bt' aj' nj' cj' lj' kj' ac' nc' cc' lc' kc' sj' sc' (HA'.out.1.below HT11.out.low) HA'.out.2.1 (by have := HGS.out; omega) (HA'.out.2.2.1.below HT11.out.low) HA'.out.2.2.2.1 (by have := HGS.out; omega) HA'.out.2.2.2.2.1 HA'.out.2.2.2.2.2 B HSB.out HOB.out).mono ?_
        rintro e v12 ⟨rfl, hd12, ho12⟩
        have HT12 := hid (HT11.out.only ho12 HQP.out.1 HQP.out.2)
        have HD12 : Hid (DiskAt v12 q p (overDisk O A.bytes B.bytes)) := hd12
        clear hd12 ho12 HT11 HD11 hlen8
        go_wp2_with fail
        refine (crash_any HD12.out ad ch len cap (HR.out.1.below HT12.out.low) HR.out.2 (by have := HGS.out; omega)).mono ?_
        rintro e v13 ⟨q2, rfl, p2, hd13, hb13, -, -⟩
        have HT13 := hid (HT12.out.below hb13)
        have HD13 := hid hd13
        clear hd13 hb13 HT12 HD12
        go_wp2_with fail
        refine (bestS_ok HD13.out rfl (by rw [show (((overDisk O A.bytes B.bytes).crash ch).secs.length) = (overDisk O A.bytes B.bytes).secs.length by simp [Dk.crash, crashL], overDisk_len]; decide) 96).mono ?_
        rintro e w14 ⟨hbst, hb14⟩
        have HT14 := hid (HT13.out.below hb14)
        clear hb14 HT13 HD13
        have hor := over_best HOA.out HOB.out (by rw [HSA.out]) (by rw [HSB.out]) (by rw [HSA.out]; exact HA.out.2.2.2.2.1) (by rw [HSA.out]; exact HA.out.2.2.2.2.2) (by rw [HSB.out]; exact HA'.out.2.2.2.2.1) (by rw [HSB.out]; exact HA'.out.2.2.2.2.2) ch HR.out.1.1 O HOL.out.1 HNO.out HPA.out
        rcases hor with hor | hor
        · rw [hor] at hbst
          obtain ⟨xj, yj, zj, xc, yc, zc, rfl, h1, h2, h3, h4, -, -⟩ := hbst
          have HX := hid (And.intro h1 (And.intro h2 (And.intro h3 h4)))
          clear h1 h2 h3 h4 hor
          obtain ⟨SN, hSN⟩ : ∃ S : Sp, A = S := ⟨_, rfl⟩
          rw [hSN] at HX ⊢
          have HSN := hid hSN
          have HLN : Hid (SN.j.segs.length ≤ 1000 ∧ SN.c.segs.length ≤ 1000) := by have hf := HOA.out.few; show _ ∧ _; rw [← hSN]; omega
          clear hSN
          obtain ⟨nbS, btS, ⟨sjS, ljS, kjS⟩, ⟨scS, lcS, kcS⟩⟩ := SN
          dsimp only at HX ⊢
          have hbal : Below w14.heap.size w14 (w14.alloc (.cells #[.int .i64 nbS, .int .i64 btS, .slice xj yj zj, .int .i64 ljS, .int .u32 (kjS : Int), .slice xc yc zc, .int .i64 lcS, .int .u32 (kcS : Int)] 39)) := (Below.refl _ _).alloc (Nat.le_refl _) _
          have HT15 := hid (HT14.out.below hbal)
          have HXB : Hid ((w14.alloc (.cells #[.int .i64 nbS, .int .i64 btS, .slice xj yj zj, .int .i64 ljS, .int .u32 (kjS : Int), .slice xc yc zc, .int .i64 lcS, .int .u32 (kcS : Int)] 39)).heap[w14.heap.size]? = some (.cells #[.int .i64 nbS, .int .i64 btS, .slice xj yj zj, .int .i64 ljS, .int .u32 (kjS : Int), .slice xc yc zc, .int .i64 lcS, .int .u32 (kcS : Int)] 39 (0, 0))) := heap_alloc_new _ _
          have HXL : Hid (w14.heap.size < (w14.alloc (.cells #[.int .i64 nbS, .int .i64 btS, .slice xj yj zj, .int .i64 ljS, .int .u32 (kjS : Int), .slice xc yc zc, .int .i64 lcS, .int .u32 (kcS : Int)] 39)).heap.size) := by show _ < _; simp
          have HXJ := hid (HX.out.2.2.1.below hbal)
          have HXC := hid (HX.out.2.2.2.below hbal)
          obtain ⟨e0, e1, e2, e3, e4, e5, e6, e7⟩ := cells8 HT15.out.bx
          have hsz14 := HT14.out.lt
          clear hbal HT14
          go_wp2_with fail
          generalize w14.alloc (.cells #[.int .i64 nbS, .int .i64 btS, .slice xj yj zj, .int .i64 ljS, .int .u32 (kjS : Int), .slice xc yc zc, .int .i64 lcS, .int .u32 (kcS : Int)] 39) = w15 at HT15 HXB HXL HXJ HXC ⊢
          generalize w14.heap.size = xb at HXB HXL ⊢
          refine (same_any w15 nbS btS xj yj zj ljS kjS xc yc zc lcS kcS sjS scS 5 bt aj nj cj lj kj ac nc cc lc kc sj sc HXJ.out HX.out.1 HXC.out HX.out.2.1 (by have := HLN.out; have := HX.out.1; omega) (by have := HLN.out; have := HX.out.2.1; omega) (HA.out.1.below HT15.out.low) HA.out.2.1 (HA.out.2.2.1.below HT15.out.low) HA.out.2.2.2.1 (by have := HGS.out; omega) (by have := HGS.out; omega) ⟨nbS, btS, ⟨sjS, ljS, kjS⟩, ⟨scS, lcS, kcS⟩⟩ A rfl HSA.out).mono ?_
          rintro e w16 ⟨rfl, hb16⟩
          rw [show decide ((⟨nbS, btS, ⟨sjS, ljS, kjS⟩, ⟨scS, lcS, kcS⟩⟩ : Sp) = A) = true from decide_eq_true HSN.out.symm]
          have HT16 := hid (HT15.out.below hb16)
          clear hb16
          go_wp2_with fail
          go_ret
          exact ⟨rfl, HT16.out.low⟩
        · rw [hor] at hbst
          obtain ⟨xj, yj, zj, xc, yc, zc, rfl, h1, h2, h3, h4, -, -⟩ := hbst
          have HX := hid (And.intro h1 (And.intro h2 (And.intro h3 h4)))
          clear h1 h2 h3 h4 hor
          obtain ⟨SN, hSN⟩ : ∃ S : Sp, B = S := ⟨_, rfl⟩
          rw [hSN] at HX ⊢
          have HSN := hid hSN
          have HLN : Hid (SN.j.segs.length ≤ 1000 ∧ SN.c.segs.length ≤ 1000) := by have hf := HOB.out.few; show _ ∧ _; rw [← hSN]; omega
          clear hSN
          obtain ⟨nbS, btS, ⟨sjS, ljS, kjS⟩, ⟨scS, lcS, kcS⟩⟩ := SN
          dsimp only at HX ⊢
          have hbal : Below w14.heap.size w14 (w14.alloc (.cells #[.int .i64 nbS, .int .i64 btS, .slice xj yj zj, .int .i64 ljS, .int .u32 (kjS : Int), .slice xc yc zc, .int .i64 lcS, .int .u32 (kcS : Int)] 39)) := (Below.refl _ _).alloc (Nat.le_refl _) _
          have HT15 := hid (HT14.out.below hbal)
          have HXB : Hid ((w14.alloc (.cells #[.int .i64 nbS, .int .i64 btS, .slice xj yj zj, .int .i64 ljS, .int .u32 (kjS : Int), .slice xc yc zc, .int .i64 lcS, .int .u32 (kcS : Int)] 39)).heap[w14.heap.size]? = some (.cells #[.int .i64 nbS, .int .i64 btS, .slice xj yj zj, .int .i64 ljS, .int .u32 (kjS : Int), .slice xc yc zc, .int .i64 lcS, .int .u32 (kcS : Int)] 39 (0, 0))) := heap_alloc_new _ _
          have HXL : Hid (w14.heap.size < (w14.alloc (.cells #[.int .i64 nbS, .int .i64 btS, .slice xj yj zj, .int .i64 ljS, .int .u32 (kjS : Int), .slice xc yc zc, .int .i64 lcS, .int .u32 (kcS : Int)] 39)).heap.size) := by show _ < _; simp
          have HXJ := hid (HX.out.2.2.1.below hbal)
          have HXC := hid (HX.out.2.2.2.below hbal)
          obtain ⟨e0, e1, e2, e3, e4, e5, e6, e7⟩ := cells8 HT15.out.bx
          have hsz14 := HT14.out.lt
          clear hbal HT14
          go_wp2_with fail
          generalize w14.alloc (.cells #[.int .i64 nbS, .int .i64 btS, .slice xj yj zj, .int .i64 ljS, .int .u32 (kjS : Int), .slice xc yc zc, .int .i64 lcS, .int .u32 (kcS : Int)] 39) = w15 at HT15 HXB HXL HXJ HXC ⊢
          generalize w14.heap.size = xb at HXB HXL ⊢
          refine (same_any w15 nbS btS xj yj zj ljS kjS xc yc zc lcS kcS sjS scS 5 bt aj nj cj lj kj ac nc cc lc kc sj sc HXJ.out HX.out.1 HXC.out HX.out.2.1 (by have := HLN.out; have := HX.out.1; omega) (by have := HLN.out; have := HX.out.2.1; omega) (HA.out.1.below HT15.out.low) HA.out.2.1 (HA.out.2.2.1.below HT15.out.low) HA.out.2.2.2.1 (by have := HGS.out; omega) (by have := HGS.out; omega) ⟨nbS, btS, ⟨sjS, ljS, kjS⟩, ⟨scS, lcS, kcS⟩⟩ A rfl HSA.out).mono ?_
          rintro e w16 ⟨rfl, hb16⟩
          rw [show decide ((⟨nbS, btS, ⟨sjS, ljS, kjS⟩, ⟨scS, lcS, kcS⟩⟩ : Sp) = A) = false from decide_eq_false (fun h => by have h6 := HSN.out; rw [HSB.out] at h6; rw [HSA.out] at h; rw [← h6] at h; injection h with h7; omega)]
          have HT16 := hid (HT15.out.below hb16)
          have HXB16 := hid ((hb16.block _ HXL.out).trans HXB.out)
          have HXJ16 := hid (HXJ.out.below hb16)
          have HXC16 := hid (HXC.out.below hb16)
          clear hb16 e0 e1 e2 e3 e4 e5 e6 e7 HT15 HXB HXJ HXC
          obtain ⟨e0, e1, e2, e3, e4, e5, e6, e7⟩ := cells8 HXB16.out
          obtain ⟨f0, f1, f2, f3, f4, f5, f6, f7⟩ := cells8 HT16.out.bY
          go_wp2_with fail
          refine (same_any w16 nbS btS xj yj zj ljS kjS xc yc zc lcS kcS sjS scS 6 bt' aj' nj' cj' lj' kj' ac' nc' cc' lc' kc' sj' sc' HXJ16.out HX.out.1 HXC16.out HX.out.2.1 (by have := HLN.out; have := HX.out.1; omega) (by have := HLN.out; have := HX.out.2.1; omega) (HA'.out.1.below HT16.out.low) HA'.out.2.1 (HA'.out.2.2.1.below HT16.out.low) HA'.out.2.2.2.1 (by have := HGS.out; omega) (by have := HGS.out; omega) ⟨nbS, btS, ⟨sjS, ljS, kjS⟩, ⟨scS, lcS, kcS⟩⟩ B rfl HSB.out).mono ?_
          rintro e w17 ⟨rfl, hb17⟩
          rw [show decide ((⟨nbS, btS, ⟨sjS, ljS, kjS⟩, ⟨scS, lcS, kcS⟩⟩ : Sp) = B) = true from decide_eq_true HSN.out.symm]
          have HT17 := hid (HT16.out.below hb17)
          clear hb17
          go_wp2_with fail
          go_ret
          exact ⟨rfl, HT17.out.low⟩
theorem pair_sup {H : Type} {enc : TypeId × Value → H} {W : World} {base : Nat} {v : Value} {d : DataW H} {p : List MemPlace} (hok : Value.okWide Try.prog W .any base 28 v) (h : DataW.Trod enc Try.prog W 0 (fun _ => true) true 28 v d p) : ∃ c0 c1 s0 s1, v = .agg (c0 ++ c1) ∧ SupIn W (.agg c0) s0 ∧ SupIn W (.agg c1) s1 := by
  obtain ⟨cs, rfl, hsz, _⟩ : ∃ cs, v = .agg cs ∧ cs.size = Try.prog.cellsOf 28 ∧ Row.okWide Try.prog W .any base 28 cs := by
    simpa [Value.okWide, Try.underlying28] using hok
  have hc28 : Try.prog.cellsOf 28 = 16 := by kernel_rfl
  have hc27 : Try.prog.cellsOf 27 = 8 := by kernel_rfl
  rw [hc28] at hsz
  obtain ⟨fuel, hf⟩ := h
  obtain ⟨xs, m, rfl, _, _, hxs, hx⟩ := DataW.trod_array Try.underlying28 hf
  have e0 := hx 0 (by decide)
  have e1 := hx 1 (by decide)
  rw [hc27] at e0 e1
  obtain ⟨l⟩ := cs
  have g0 : ∃ y, DataW.trod enc Try.prog W 0 (fun _ => true) true m 27 (l.take 8) = some y := by
    rw [List.getElem?_eq_getElem (by omega)] at e0
    exact ⟨_, by simpa [Value.cells] using e0⟩
  have g1 : ∃ y, DataW.trod enc Try.prog W 0 (fun _ => true) true m 27 (l.drop 8) = some y := by
    rw [List.getElem?_eq_getElem (by omega)] at e1
    have hl : (l.drop 8).take 8 = l.drop 8 := List.take_of_length_le (by simp at hsz ⊢; omega)
    refine ⟨xs[1]'(by omega), ?_⟩
    have e2 : DataW.trod enc Try.prog W 0 (fun _ => true) true m 27 ((l.drop 8).take 8) = some (xs[1]'(by omega)) := by simpa [Value.cells] using e1
    rw [hl] at e2
    exact e2
  obtain ⟨_, g0⟩ := g0
  obtain ⟨_, g1⟩ := g1
  obtain ⟨s0, h0⟩ := sup_of (cs := (l.take 8).toArray) g0
  obtain ⟨s1, h1⟩ := sup_of (cs := (l.drop 8).toArray) g1
  refine ⟨(l.take 8).toArray, (l.drop 8).toArray, s0, s1, ?_, h0, h1⟩
  rw [List.append_toArray, List.take_append_drop]
set_option linter.unusedVariables false
set_option maxRecDepth 100000 in
theorem superOver_lifted (os : Os) (started : os.Started) (H : Type) (enc : TypeId × Value → H) :
    ReturnsInHanded {} Try.checked os 3 .any (Rows.superOverSpec.pre6 enc Try.prog Try.f3 Rows.superOverRow.domain false) (Rows.superOverSpec.post enc Try.prog Try.f3 false true false false) := by
  refine returnsInHanded_of_change (C := Try.checked) laws_own started (by kernel_rfl) Try.func3
    (ChangeSpec.witness6 (enc := enc) (C := Try.checked) false ⟨#[], #[.agg #[.int .i64 0, .int .i64 0, .slice none 0 0, .int .i64 0, .int .u32 0, .slice none 0 0, .int .i64 0, .int .u32 0, .int .i64 0, .int .i64 0, .slice none 0 0, .int .i64 0, .int .u32 0, .slice none 0 0, .int .i64 0, .int .u32 0], .slice none 0 0, .slice none 0 0], []⟩ 8 (by kernel_rfl) (by kernel_rfl) (by kernel_rfl) (by kernel_rfl)) ?_
  intro W base args ds gs before hval0 hW hcnd _
  have hval : ∀ (j : Nat) t v, Try.f3.params[j]? = some t → args[j]? = some v → Value.okWide Try.prog W .any base t v := hval0
  have hW' := hW
  obtain ⟨p, q, hA0, hV, rfl, hfz, hnd⟩ := hW
  have hA : DataW.TrodAll enc Try.prog W 0 (fun _ => true) true Try.f3.params.toList args.toList ds p := hA0
  rw [Try.params3] at hA hval
  obtain ⟨v0, vs0, d0, ds0, p0, q0, hargs, rfl, rfl, h0, r0⟩ := trodAll_cons hA
  obtain ⟨v1, vs1, d1, ds1, p1, q1, rfl, rfl, rfl, h1, r1⟩ := trodAll_cons r0
  obtain ⟨v2, vs2, d2, ds2, p2, q2, rfl, rfl, rfl, h2, r2⟩ := trodAll_cons r1
  obtain ⟨rfl, rfl, rfl⟩ := trodAll_nil r2
  obtain rfl : args = #[v0, v1, v2] := by cases args; simp_all
  obtain ⟨rfl, rfl⟩ := trodVars_none hV
  have k0 := h0
  have lt0 : ∀ x ∈ p0, x.block < W.heap.size := by obtain ⟨m, hm⟩ := k0; exact DataW.trod_lt m _ _ _ hm
  obtain ⟨c0, c1, s0, s1, rfl, hs0, hs1⟩ := pair_sup (hval 0 28 v0 rfl rfl) h0
  obtain ⟨a1, len1, cap1, rfl⟩ := okWide_slice Try.underlying29 (hval 1 29 v1 rfl rfl)
  have k1 := h1
  have lt1 : ∀ x ∈ p1, x.block < W.heap.size := by obtain ⟨m, hm⟩ := k1; exact DataW.trod_lt m _ _ _ hm
  obtain ⟨l1, hl1, hr1⟩ : ∃ l, l.length = len1 ∧ Row W a1 l := by
    obtain ⟨fuel, hf⟩ := h1
    exact rows_of hf
  obtain ⟨a2, len2, cap2, rfl⟩ := okWide_slice Try.underlying29 (hval 2 29 v2 rfl rfl)
  have k2 := h2
  have lt2 : ∀ x ∈ p2, x.block < W.heap.size := by obtain ⟨m, hm⟩ := k2; exact DataW.trod_lt m _ _ _ hm
  obtain ⟨l2, hl2, hr2⟩ : ∃ l, l.length = len2 ∧ Row W a2 l := by
    obtain ⟨fuel, hf⟩ := h2
    exact rows_of hf
  clear hA0 hval0
  refine (superOver_walk W c0 s0 hs0 c1 s1 hs1 a1 len1 cap1 l1 hr1 hl1 a2 len2 cap2 l2 hr2 hl2).mono fun e W' ⟨he, bel⟩ => ?_
  subst he
  exact ⟨_, rfl, _, _, _, [], _, [], hW', trodAll_mk1 (shut_bool Try.underlying4 _), (trodAll_cons_mk (Below.trod laws_laid (by kernel_rfl) (of_decide_eq_true (by kernel_rfl)) k0 bel lt0) (trodAll_cons_mk (Below.trod laws_laid (by kernel_rfl) (of_decide_eq_true (by kernel_rfl)) k1 bel lt1) (trodAll_cons_mk (Below.trod laws_laid (by kernel_rfl) (of_decide_eq_true (by kernel_rfl)) k2 bel lt2) trodAll_mk0))), rfl, bel.frame _, fun h => by cases h⟩

theorem superOver_over : Rows.superOverRow.holds Try.pinned (OpenSpec.ofChange Rows.superOverSpec) :=
  OpenClaim.holds_of_wide 3 Try.f3 rfl rfl rfl rfl rfl rfl rfl ⟨rfl, rfl, rfl, rfl, rfl⟩ rfl rfl rfl rfl rfl (by kernel_rfl) Try.func3 (by kernel_rfl)
    (of_decide_eq_true (by kernel_rfl)) (by unfold Func.isWrapper; first | (rw [if_pos (by decide +kernel)]; kernel_rfl) | (rw [if_neg (by decide +kernel)]; exact ⟨rfl, rfl⟩))
    (fun os started H enc _ => superOver_lifted os started H enc)
theorem superOver_holds : Rows.SuperOverSaid := superOver_over
#print axioms superOver_holds
end Go.Proofs.Ytmfmhlhpleahpab
