/- What place.last answers: the bytes of a sector as they were written last; and steps of many cells at once. No condition. -/
import Derived.Test.YteohjfhflodklaaSecs
namespace Go.Proofs.Yteohjfhflodklaa
open Go.RowKit
set_option maxRecDepth 4000
theorem hid {p : Prop} (h : p) : Hid p := h
section
variable {P : Program} {ops : Array Oper} {rest : List Oper} {op : Oper} {a : Act} {w w' : World} {Q : Exit → Act → World → Prop}
theorem step_load (ty : TypeId) (hgd : op.guard = none) (x : Operand) (ho : op.op = .load ty x) (v : Value) (hrun : (Instr.loadAt ty (a.eval x)).run P w = .ok v w)
    (h : wpList P ops Q rest (a.put op.dst v) w) : wpList P ops Q (op :: rest) a w :=
  wpList_plain hgd fun _ hK => by
    unfold Oper.wp execOp
    simp only [ho, Sem.run_bind, Sem.run_pure, Result.andThen_ok, hrun]
    exact hK _ _ h
theorem step_store (ty : TypeId) (hgd : op.guard = none) (x y : Operand) (ho : op.op = .store ty x y) (w' : World) (hrun : (Instr.storeAt ty (a.eval x) (a.eval y)).run P w = .ok () w')
    (h : wpList P ops Q rest (a.put op.dst undef) w') : wpList P ops Q (op :: rest) a w :=
  wpList_plain hgd fun _ hK => by
    unfold Oper.wp execOp
    simp only [ho, Sem.run_bind, Sem.run_pure, Result.andThen_ok, hrun]
    exact hK _ _ h
theorem step_alloc (ty : TypeId) (hgd : op.guard = none) (ho : op.op = .alloc ty) (v : Value) (w' : World) (hrun : (Instr.alloc ty true (.tuple #[])).run P w = .ok v w')
    (h : wpList P ops Q rest (a.put op.dst v) w') : wpList P ops Q (op :: rest) a w :=
  wpList_plain hgd fun _ hK => by
    unfold Oper.wp execOp
    simp only [ho, Sem.run_bind, Sem.run_pure, Result.andThen_ok, hrun]
    exact hK _ _ h
end
theorem zero62 : (Try.prog.info? 84).map (fun i => (i.zero, i.size)) = some (some (.agg (row8 zeros)), 64) := by kernel_rfl
theorem run_alloc62 (w : World) : (Instr.alloc 84 true (.tuple #[])).run Try.prog w = .ok (.pointer (some ⟨w.heap.size, 0, none⟩)) (w.alloc (.cells (row8 zeros) 84)) := by
  have h := (zero_of_info zero62).1
  simp [Instr.alloc, h, newVar, newRow, Value.cells]
theorem size62 : (Try.prog.info? 84).map (·.size) = some 64 := by kernel_rfl
theorem size64 : (Try.prog.info? 86).map (·.size) = some 129 := by kernel_rfl
theorem range_cached {w : World} {b o : Nat} {s : Sec} (hs : s.ok) (h : w.rangeAt b o (secCells s)) : w.rangeAt b (o + 64) (vals s.cached) := fun j v hv => by
  have hj : j < 64 := by have := (List.getElem?_eq_some_iff.1 hv).1; rwa [vals_len, hs.2.1] at this
  rw [Nat.add_assoc]
  exact h (64 + j) v (by rw [sec_get_cached s hs j hj]; exact hv)
theorem range_safe {w : World} {b o : Nat} {s : Sec} (hs : s.ok) (h : w.rangeAt b o (secCells s)) : w.rangeAt b o (vals s.safe) := fun j v hv => by
  have hj : j < 64 := by have := (List.getElem?_eq_some_iff.1 hv).1; rwa [vals_len, hs.1.1] at this
  exact h j v (by rw [sec_get_safe s hs j hj]; exact hv)
theorem range_new (w : World) (cs : List Value) (t : TypeId) (m : Nat × Nat) : (w.alloc (.cells cs.toArray t m)).rangeAt w.heap.size 0 cs := fun j v hv => by
  rw [Nat.zero_add, cell_of_row _ _ _ _ t m (heap_alloc_new w _)]
  simpa using hv
theorem load62 (w : World) (b o : Nat) (l : List Nat) (hl : Bytes l) (h : w.rangeAt b o (vals l)) : (Instr.loadAt 84 (.pointer (some ⟨b, o, none⟩))).run Try.prog w = .ok (.agg (row8 l)) w :=
  run_loadAt_mid w b o 84 (vals l) _ h Try.underlying84 rfl (by rw [vals_len, hl.1]; exact size62)
theorem load64 (w : World) (b o : Nat) (s : Sec) (hs : s.ok) (h : w.rangeAt b o (secCells s)) : (Instr.loadAt 86 (.pointer (some ⟨b, o, none⟩))).run Try.prog w = .ok (.agg (secCells s).toArray) w :=
  run_loadAt_mid w b o 86 (secCells s) _ h Try.underlying86 rfl (by rw [secCells_len hs]; exact size64)
theorem splice_all {α : Type} (a b : List α) (h : b.length = a.length) : splice a 0 b = b := by
  simp [splice, h]
/-- A value of many cells into a block that is known whole. -/
theorem run_storeAt_row (w : World) (g o : Nat) (t ty : TypeId) (cur cs : List Value) (hg : w.heap[g]? = some (.cells cur.toArray t (0, 0))) (hi : (Try.prog.info? ty).map (·.size) = some cs.length) (hfit : o + cs.length ≤ cur.length) (h1 : ∀ v ∈ cs, v.oneCell' = true) :
    (Instr.storeAt ty (.pointer (some ⟨g, o, none⟩)) (.agg cs.toArray)).run Try.prog w = .ok () (w.setRow g (splice cur o cs).toArray) := by
  have hst := run_storeCells_at Try.prog g o t cs 0 cur.toArray w hg (by simpa using hfit) h1
  cases hq : Try.prog.info? ty with
  | none => simp [hq] at hi
  | some i =>
    have hs : cs.length = i.size := by simp [hq] at hi; omega
    simp [Instr.storeAt, Instr.sureAddr, storeVar, sizeOf, typeInfo, hq, Value.cells, hs] at hst ⊢
    rw [hst]
    simp [splice, hs]
theorem setRow_new (w : World) (c c' : Array Value) (t : TypeId) : (w.alloc (.cells c t)).setRow w.heap.size c' = w.alloc (.cells c' t) := World.setRow_alloc_new w c c' t
theorem store62_new (w : World) (n : Nat) (l l' : List Nat) (hn : w.heap.size = n) (hl : Bytes l) (hl' : Bytes l') : (Instr.storeAt 84 (.pointer (some ⟨n, 0, none⟩)) (.agg (row8 l'))).run Try.prog (w.alloc (.cells (row8 l) 84)) = .ok () (w.alloc (.cells (row8 l') 84)) := by
  subst hn
  refine run_storeAt_new w 84 (row8 l) (row8 l') ?_ ?_ ?_
  · rw [show (row8 l').size = 64 by simp [row8, vals_len, hl'.1]]; exact size62
  · simp [row8, vals_len, hl.1, hl'.1]
  · exact all_oneCell_toArray (vals_one l')
theorem ret62 (fn : Func) (p : Tmp) (tmps : Array Value) (hres : fn.results = #[.cell p 84]) (w : World) (n : Nat) (l : List Nat) (hn : w.heap.size = n) (htm : tmps.getD p undef = .pointer (some ⟨n, 0, none⟩)) (hl : Bytes l) {Q : Ending → World → Prop}
    (h : Q (.returned (.agg (row8 l))) (w.alloc (.cells (row8 l) 84))) : bodyPost Try.prog fn Q .ret { tmps := tmps, defers := [] } (w.alloc (.cells (row8 l) 84)) := by
  subst hn
  refine bodyPost_ret (v := .agg (row8 l)) ?_ rfl h
  exact results_cell_row hres tmps _ w.heap.size 84 (row8 l) (0, 0) _ htm (heap_alloc_new w _) Try.underlying84 rfl (by rw [show (row8 l).size = 64 by simp [row8, vals_len, hl.1]]; exact size62)
set_option maxHeartbeats 1000000 in
theorem last_any (w : World) (s : Sec) (hs : s.ok) : Calls Try.prog 41 #[.agg (secCells s).toArray] w fun e w' => e = .returned (.agg (row8 s.last)) ∧ Below w.heap.size w w' := by
  have HS : Hid (s.ok) := hs
  have hw := sec_get_waits s hs
  have hb : Below w.heap.size w ((w.alloc (.cells (secCells s).toArray 86)).alloc (.cells (row8 s.last) 84)) := ((Below.refl _ w).alloc (Nat.le_refl _) _).alloc (by simp) _
  have HB : Hid (Below w.heap.size w ((w.alloc (.cells (secCells s).toArray 86)).alloc (.cells (row8 s.last) 84))) := hb
  have hr : ((w.alloc (.cells (secCells s).toArray 86)).alloc (.cells (row8 zeros) 84)).rangeAt w.heap.size 0 (secCells s) := World.rangeAt_alloc (range_new w _ _ _) _
  have hlc := load62 _ _ _ _ hs.2 (range_cached hs hr)
  have hls := load62 _ _ _ _ hs.1 (range_safe hs hr)
  rw [Nat.zero_add] at hlc
  have HC := hid hlc
  have HF := hid hls
  have HL : Hid (s.last = if s.waits then s.cached else s.safe) := rfl
  clear hs hb hr hlc hls
  generalize hwt : s.waits = t at *
  go_enter Try.func41, Try.ntmps41
  cases t
  · have hl : s.last = s.safe := HL.out
    rw [hl] at HB ⊢
    clear hl
    go_wp2_with (first | refine step_alloc 84 rfl rfl _ _ (run_alloc62 _) ?_ | refine step_load 84 rfl _ rfl _ HF.out ?_ | refine step_store 84 rfl _ _ rfl _ (store62_new _ _ _ _ (by simp) bytes_zeros HS.out.1) ?_)
    exact ret62 _ _ _ rfl _ (w.heap.size + 1) _ (by simp) (by simp) HS.out.1 ⟨rfl, HB.out⟩
  · have hl : s.last = s.cached := HL.out
    rw [hl] at HB ⊢
    clear hl
    go_wp2_with (first | refine step_alloc 84 rfl rfl _ _ (run_alloc62 _) ?_ | refine step_load 84 rfl _ rfl _ HC.out ?_ | refine step_store 84 rfl _ _ rfl _ (store62_new _ _ _ _ (by simp) bytes_zeros HS.out.2) ?_)
    exact ret62 _ _ _ rfl _ (w.heap.size + 1) _ (by simp) (by simp) HS.out.2 ⟨rfl, HB.out⟩
end Go.Proofs.Yteohjfhflodklaa
