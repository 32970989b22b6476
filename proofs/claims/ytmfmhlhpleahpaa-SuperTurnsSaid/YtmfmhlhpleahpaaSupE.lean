/- What the program hears: a log off an Eye. No condition. -/
import Derived.Test.YtmfmhlhpleahpaaSupD
namespace Go.Proofs.Ytmfmhlhpleahpaa
open Go.RowKit Pen
open Crc (four nx)
/-! ### Rows of whole numbers -/
def ivals (l : List Int) : List Value := l.map fun n => Value.int .i64 n
theorem ivals_len (l : List Int) : (ivals l).length = l.length := by simp [ivals]
theorem ivals_get (l : List Int) (i : Nat) (hi : i < l.length) : (ivals l)[i]? = some (.int .i64 (l.getD i 0)) := by
  simp [ivals, List.getD_eq_getElem?_getD, List.getElem?_eq_getElem hi]
theorem ivals_one (l : List Int) : ∀ u ∈ ivals l, u.oneCell' = true := by
  intro u hu
  obtain ⟨n, _, rfl⟩ := List.mem_map.1 hu
  rfl
theorem ivals_app (a b : List Int) : ivals (a ++ b) = ivals a ++ ivals b := by simp [ivals]
theorem info3 : (Try.prog.info? 3).map (fun i => (i.zero, i.size, i.bytes)) = some (some (.int .i64 0), 1, 8) := by kernel_rfl
theorem info3' : ∃ i, Try.prog.info? 3 = some i ∧ i.zero = some (.int .i64 0) ∧ i.size = 1 ∧ i.bytes = 8 := by
  obtain ⟨i, hi, hzz⟩ := Option.map_eq_some_iff.1 info3
  simp only [Prod.mk.injEq] at hzz
  exact ⟨i, hi, hzz.1, hzz.2.1, hzz.2.2⟩
theorem irow_of_owns {w : World} {base : Nat} {v : Value} {l : List Int} (h : w.ownsRow base 3 1 v l.length (ivals l)) :
    ∃ a cap, v = .slice a l.length cap ∧ IRow w a l ∧ (∀ x, a = some x → base ≤ x.block) := by
  rcases h.2 with ⟨rfl, h0⟩ | ⟨g, cap, cur, rfl, hb, hg, hc, hm, hs, ht⟩
  · obtain rfl : l = [] := List.length_eq_zero_iff.1 h0
    exact ⟨none, 0, rfl, .inl rfl, by simp⟩
  · refine ⟨_, cap, rfl, .inr ⟨g, 0, rfl, (Array.getElem?_eq_some_iff.1 hg).1, fun i hi => ?_⟩, fun x hx => by simp at hx; rw [← hx]; exact hb⟩
    rw [Nat.zero_add, cell_of_row w g i cur 3 (0, 0) hg]
    have := ivals_get l i hi
    rw [← ht, Nat.mul_one, List.getElem?_take, if_pos hi] at this
    simpa using this
theorem inews_of {w : World} {b off : Nat} {l : List Int} (h : ∀ i, i < l.length → w.cell? ⟨b, off + i, none⟩ = some (.int .i64 (l.getD i 0))) :
    ∀ j u, (ivals l)[j]? = some u → w.cell? ((⟨b, off, none⟩ : Addr).add j) = some u := by
  intro j u hu
  have hj : j < l.length := by have := (List.getElem?_eq_some_iff.1 hu).1; rwa [ivals_len] at this
  have hadd : (⟨b, off, none⟩ : Addr).add j = ⟨b, off + j, none⟩ := by unfold Addr.add; split <;> simp_all
  rw [hadd, h j hj, ← ivals_get l j hj, hu]
theorem run_append_irow (W : World) (ty : TypeId) (base : Nat) (v : Value) (l1 : List Int) (hown : W.ownsRow base 3 1 v l1.length (ivals l1)) (a : Option Addr) (l : List Int) (cap : Nat) (hr : IRow W a l) (hne : l ≠ [])
    (hsz : l1.length + l.length ≤ 1000000000) (hbase : base ≤ W.heap.size) :
    ∃ g cap' w', (Builtin.append_ #[22, 22] ty #[v, .slice a l.length cap]).run Try.prog W = .ok (.slice (some ⟨g, 0, none⟩) (l1 ++ l).length cap') w' ∧
      w'.ownsRow base 3 1 (.slice (some ⟨g, 0, none⟩) (l1 ++ l).length cap') (l1 ++ l).length (ivals (l1 ++ l)) ∧ W.grownBy w' v.ownBlock ∧ (v.ownBlock = some g ∨ W.heap.size ≤ g) := by
  obtain ⟨i3, hi3, hz3, hs3, hy3⟩ := info3'
  rcases hr with h | ⟨b, off, rfl, _, hc⟩
  · exact absurd h hne
  · have h0 : 0 < l.length := List.length_pos_iff.2 hne
    obtain ⟨g, cap', w', hrun, h2, h3, h4, _⟩ := run_append_lies (P := Try.prog) W 22 ty base 3 i3 (.int .i64 0) 1 8 Try.underlying22 hi3 hz3 hs3 hy3 rfl (by decide) v l1.length (ivals l1) hown ⟨b, off, none⟩ l.length cap (ivals l) (by rw [ivals_len, Nat.mul_one]) (inews_of hc) (ivals_one l) h0 (by unfold maxLen; omega) (by omega) hbase _ rfl
    rw [ivals_app, List.length_append]
    exact ⟨g, cap', w', hrun, h2, h3, h4.imp id fun e => by omega⟩
theorem step_app2 {ops : Array Oper} {op : Oper} {a : Act} {w : World} {K : Act → World → Prop} {Q : Exit → Act → World → Prop} {E : Prop} (t : TypeId) (hgd : op.guard = none) (d s : Operand)
    (ho : op.op = .call { callee := .builtin .append, args := #[d, s], argTypes := #[t, t] }) (x y : Value) (hd : a.eval d = x) (hs : a.eval s = y) (v : Value) (w' : World) (hrun : (Builtin.append_ #[t, t] op.type #[x, y]).run Try.prog w = .ok v w')
    (h : K (a.put op.dst v) w') : if Region.wanted op (yielded ops a.tmps) = true then Oper.wp Try.prog op a w K Q else E := by
  have hw : Region.wanted op (yielded ops a.tmps) = true := by simp [Region.wanted, hgd]
  rw [if_pos hw]
  unfold Oper.wp
  simp [execOp, ho, resolve, invoke, builtin, hd, hs, hrun, Result.andThen]
  exact h
/-- The log that is heard, while it is heard: at x its three cells. -/
def HLog (base : Nat) (w : World) (q x : Nat) (v : Value) (sg : List Int) (L : Int) (K : Nat) (l : List Nat) (bad : Bool) : Prop :=
  w.heap[x]? = some (.cells #[v, .int .i64 L, .int .u32 (K : Int)] 30 (0, 0)) ∧ w.ownsRow base 3 1 v sg.length (ivals sg) ∧ EyeAt w q l bad ∧ base ≤ w.heap.size ∧ q < base ∧ base ≤ x
theorem HLog.ne {base : Nat} {w : World} {q x : Nat} {v : Value} {sg : List Int} {L : Int} {K : Nat} {l : List Nat} {bad : Bool} (h : HLog base w q x v sg L K l bad) : x ≠ q ∧ some x ≠ v.ownBlock ∧ some q ≠ v.ownBlock := by
  obtain ⟨h1, h2, h3, _, h5, _⟩ := h
  refine ⟨?_, ?_, ?_⟩
  · rintro rfl
    have := h3.1
    rw [h1] at this
    simp at this
  · rcases h2.2 with ⟨rfl, _⟩ | ⟨g, cap, cur, rfl, _, hg, _⟩
    · simp [Value.ownBlock]
    · simp only [Value.ownBlock]
      intro e
      simp at e
      subst e
      rw [h1] at hg
      simp at hg
  · rcases h2.2 with ⟨rfl, _⟩ | ⟨g, cap, cur, rfl, hb, hg, _⟩
    · simp [Value.ownBlock]
    · simp only [Value.ownBlock]
      intro e
      simp at e
      omega
/-- Behind what an Eye did. -/
theorem HLog.eye {base : Nat} {w w' : World} {q x : Nat} {v : Value} {sg : List Int} {L : Int} {K : Nat} {l l' : List Nat} {bad bad' : Bool} (h : HLog base w q x v sg L K l bad) (he : EyeAt w' q l' bad') (ho : Only q none w w') : HLog base w' q x v sg L K l' bad' := by
  have hn := h.ne
  obtain ⟨h1, h2, h3, h4, h5⟩ := h
  refine ⟨(ho.block x (Array.getElem?_eq_some_iff.1 h1).1 hn.1 (by simp)).trans h1, ?_, he, Nat.le_trans h4 ho.size, h5⟩
  refine ⟨h2.1, ?_⟩
  rcases h2.2 with h | ⟨g, cap, cur, rfl, hb, hg, hc⟩
  · exact .inl h
  · exact .inr ⟨g, cap, cur, rfl, hb, (ho.block g (Array.getElem?_eq_some_iff.1 hg).1 (by simp [Value.ownBlock] at hn; omega) (by simp)).trans hg, hc⟩
theorem Only.then_below {q : Nat} {w0 w w2 : World} (h : Only q none w0 w) (hb : Below w0.heap.size w w2) : Only q none w0 w2 :=
  ⟨hb.os.trans h.os, hb.tape.trans h.tape, hb.output.trans h.output, Nat.le_trans h.size hb.size, fun k hk h1 h2 => (hb.block k hk).trans (h.block k hk h1 h2)⟩
theorem Only.then_low {q x : Nat} {w0 w w2 : World} (h : Only q none w0 w) (hx : w0.heap.size = x) (hb : Below x w w2) : Only q none w0 w2 := h.then_below (hx.symm ▸ hb)
/-- One segment more. -/
theorem HLog.more {base : Nat} {w : World} {q x : Nat} {v : Value} {sg : List Int} {L : Int} {K : Nat} {l : List Nat} {bad : Bool} (h : HLog base w q x v sg L K l bad) (b : Int) (hs : sg.length ≤ 900000000) :
    ∃ g cap' w', (Builtin.append_ #[22, 22] 22 #[v, .slice (some ⟨w.heap.size, 0, none⟩) 1 1]).run Try.prog (w.alloc (.cells #[.int .i64 b] 3)) = .ok (.slice (some ⟨g, 0, none⟩) (sg.length + 1) cap') w' ∧
      w'.cell? ⟨x, 0, none⟩ = some v ∧ w'.frozen? ⟨x, 0, none⟩ = false ∧ HLog base (w'.setCell ⟨x, 0, none⟩ (.slice (some ⟨g, 0, none⟩) (sg.length + 1) cap')) q x (.slice (some ⟨g, 0, none⟩) (sg.length + 1) cap') (sg ++ [b]) L K l bad ∧
      Below base w (w'.setCell ⟨x, 0, none⟩ (.slice (some ⟨g, 0, none⟩) (sg.length + 1) cap')) := by
  have hn := h.ne
  obtain ⟨h1, h2, h3, h4, h5, h6⟩ := h
  have hr : IRow (w.alloc (.cells #[.int .i64 b] 3)) (some ⟨w.heap.size, 0, none⟩) [b] := by
    refine .inr ⟨w.heap.size, 0, rfl, by simp, fun i hi => ?_⟩
    have hi0 : i = 0 := by simpa using hi
    subst hi0
    rw [cell_of_row _ _ _ _ 3 (0, 0) (heap_alloc_new w _)]
    rfl
  obtain ⟨g, cap', w', hrun, hown, hg, hat⟩ := run_append_irow (w.alloc (.cells #[.int .i64 b] 3)) 22 base v sg (h2.alloc _) _ [b] 1 hr (by simp) (by simp; omega) (by simp; omega)
  have hx : w'.heap[x]? = some (.cells #[v, .int .i64 L, .int .u32 (K : Int)] 30 (0, 0)) := (hg.block x (by have := (Array.getElem?_eq_some_iff.1 h1).1; simp; omega) hn.2.1).trans ((heap_alloc_old w _ (Array.getElem?_eq_some_iff.1 h1).1).trans h1)
  have hq : EyeAt w' q l bad := h3.kept ((hg.block q (by have := h3.lt; simp; omega) hn.2.2).trans (heap_alloc_old w _ h3.lt))
  have hbel : Below base w w' := (((Below.refl base w).alloc h4 _).grown hg (by simp; omega) (by
    rcases h2.2 with ⟨rfl, _⟩ | ⟨g', c', cur, rfl, hb', _⟩
    · intro k hk; simp [Value.ownBlock] at hk
    · intro k hk; simp [Value.ownBlock] at hk; omega))
  have hgx : g ≠ x := by
    rcases hat with e | e
    · intro e2; rw [e2] at e; exact hn.2.1 e.symm
    · have := (Array.getElem?_eq_some_iff.1 h1).1; simp at e; omega
  rw [show (sg ++ [b]).length = sg.length + 1 by simp] at hrun hown
  refine ⟨g, cap', w', hrun, by rw [cell_of_row w' x 0 _ 30 (0, 0) hx]; rfl, frozen_of_row w' x 0 _ 30 hx, ⟨?_, ?_, hq.kept (Below.heap_setCell _ _ _ _ (Ne.symm hn.1)), by have := hbel.size; simp; omega, h5, h6⟩, hbel.setCell h6 _⟩
  · rw [heap_setCell_same _ _ _ _ _ _ hx]; rfl
  · rw [show (sg ++ [b]).length = sg.length + 1 by simp]
    refine ⟨hown.1, ?_⟩
    rcases hown.2 with h | ⟨g', c', cur, e, hb', hg', hc'⟩
    · exact .inl h
    · refine .inr ⟨g', c', cur, e, hb', ?_, hc'⟩
      simp at e
      rw [← e.1]
      rw [← e.1] at hg'
      exact (Below.heap_setCell _ _ _ _ hgx).trans hg'
theorem HLog.cells {base : Nat} {w : World} {q x : Nat} {v : Value} {sg : List Int} {L : Int} {K : Nat} {l : List Nat} {bad : Bool} (h : HLog base w q x v sg L K l bad) : w.cell? ⟨x, 0, none⟩ = some v ∧ w.cell? ⟨x, 1, none⟩ = some (.int .i64 L) ∧ w.cell? ⟨x, 2, none⟩ = some (.int .u32 (K : Int)) ∧ ∀ j, w.frozen? ⟨x, j, none⟩ = false :=
  ⟨by rw [cell_of_row w x 0 _ 30 (0, 0) h.1]; rfl, by rw [cell_of_row w x 1 _ 30 (0, 0) h.1]; rfl, by rw [cell_of_row w x 2 _ 30 (0, 0) h.1]; rfl, fun j => frozen_of_row w x j _ 30 h.1⟩
theorem owns_setCell {w : World} {base x i : Nat} {v u : Value} {n : Nat} {xs : List Value} (h : w.ownsRow base 3 1 v n xs) (hn : some x ≠ v.ownBlock) : (w.setCell ⟨x, i, none⟩ u).ownsRow base 3 1 v n xs := by
  refine ⟨h.1, ?_⟩
  rcases h.2 with h | ⟨g, cap, cur, rfl, hb, hg, hc⟩
  · exact .inl h
  · exact .inr ⟨g, cap, cur, rfl, hb, (Below.heap_setCell _ _ _ _ (fun e => hn (by have e' : g = x := e; rw [e']; rfl))).trans hg, hc⟩
theorem HLog.setLen {base : Nat} {w : World} {q x : Nat} {v : Value} {sg : List Int} {L : Int} {K : Nat} {l : List Nat} {bad : Bool} (h : HLog base w q x v sg L K l bad) (L' : Int) : HLog base (w.setCell ⟨x, 1, none⟩ (.int .i64 L')) q x v sg L' K l bad := by
  have hn := h.ne
  obtain ⟨h1, h2, h3, h4, h5, h6⟩ := h
  exact ⟨by rw [heap_setCell_same _ _ _ _ _ _ h1]; rfl, owns_setCell h2 hn.2.1, h3.kept (Below.heap_setCell _ _ _ _ (Ne.symm hn.1)), by simpa using h4, h5, h6⟩
theorem HLog.setLast {base : Nat} {w : World} {q x : Nat} {v : Value} {sg : List Int} {L : Int} {K : Nat} {l : List Nat} {bad : Bool} (h : HLog base w q x v sg L K l bad) (K' : Nat) : HLog base (w.setCell ⟨x, 2, none⟩ (.int .u32 (K' : Int))) q x v sg L K' l bad := by
  have hn := h.ne
  obtain ⟨h1, h2, h3, h4, h5, h6⟩ := h
  exact ⟨by rw [heap_setCell_same _ _ _ _ _ _ h1]; rfl, owns_setCell h2 hn.2.1, h3.kept (Below.heap_setCell _ _ _ _ (Ne.symm hn.1)), by simpa using h4, h5, h6⟩
theorem HLog.drew {base : Nat} {w : World} {q x : Nat} {v : Value} {sg : List Int} {L : Int} {K : Nat} {l : List Nat} {bad : Bool} (h : HLog base w q x v sg L K l bad) : HLog base w.drew q x v sg L K l bad := ⟨h.1, h.2.1, h.2.2⟩
theorem wrap_i64 (n : Nat) (h : n < 9223372036854775808) : IntKind.i64.wrap (n : Int) = (n : Int) := by
  unfold IntKind.wrap
  simp only [show IntKind.i64.bits = 64 from rfl, show IntKind.i64.signed = true from rfl]
  have e : (n : Int) % 2 ^ 64 = (n : Int) := by omega
  rw [e]
  simp
  omega
theorem wrap_u32 (n : Nat) (h : n < 4294967296) : IntKind.u32.wrap (n : Int) = (n : Int) := by
  unfold IntKind.wrap
  simp only [show IntKind.u32.bits = 32 from rfl, show IntKind.u32.signed = false from rfl]
  simp
  omega
theorem last_or (t : List Nat) (i : Nat) (ht : ∀ x ∈ t, x < 256) (hi : i < 4) (h4 : t.length = 4) : bits .or .u32 ((le (t.take i) : Nat) : Int) (IntKind.u32.wrap (((t.getD i 0 : Nat) : Int) * 2 ^ (8 * i))) = ((le (t.take (i + 1)) : Nat) : Int) := by
  have h1 := le_lt (t.take (i + 1)) fun x hx => ht x (List.mem_of_mem_take hx)
  rw [List.length_take, Nat.min_eq_left (by omega)] at h1
  have h2 : (256 : Nat) ^ (i + 1) ≤ 256 ^ 4 := Nat.pow_le_pow_right (by decide) (by omega)
  have e8 : (256 : Nat) ^ 4 = 4294967296 := by decide
  have e3 := le_take t i (by omega)
  have e4 : (256 : Nat) ^ i = 2 ^ (8 * i) := by rw [Nat.pow_mul]
  rw [e4] at e3
  have e : (((t.getD i 0 : Nat) : Int) * 2 ^ (8 * i)) = ((t.getD i 0 * 2 ^ (8 * i) : Nat) : Int) := by push_cast; rfl
  rw [e, ← le_or t i ht (by omega)]
  rw [wrap_u32 _ (by omega)]
  exact u32_or_nat _ _ (by omega) (by omega)
set_option maxRecDepth 10000 in
set_option maxHeartbeats 4000000 in
theorem heardLog_any {w : World} {q : Nat} {l : List Nat} {bad : Bool} (h : EyeAt w q l bad) (hl : l.length ≤ 1000) :
    Calls Try.prog 49 #[.pointer (some ⟨q, 0, none⟩)] w fun e w' => ∃ a n c bad', e = .returned (.agg #[.slice a n c, .int .i64 (hLog l).1.len, .int .u32 ((hLog l).1.last : Int)]) ∧ (hLog l).1.segs.length = n ∧ IRow w' a (hLog l).1.segs ∧ (∀ x, a = some x → w.heap.size ≤ x.block) ∧ EyeAt w' q (hLog l).2 bad' ∧ Only q none w w' := by
  obtain ⟨w1, hw1⟩ : ∃ w1, w1 = w.alloc (.cells #[.slice none 0 0, .int .i64 0, .int .u32 0] 30) := ⟨_, rfl⟩
  have hb1 : Below w.heap.size w w1 := by rw [hw1]; exact (Below.refl _ _).alloc (Nat.le_refl _) _
  have hs1 : w1.heap.size = w.heap.size + 1 := by rw [hw1]; simp
  have hy1 : w1.heap[w.heap.size]? = some (.cells #[.slice none 0 0, .int .i64 0, .int .u32 0] 30 (0, 0)) := by rw [hw1]; exact heap_alloc_new _ _
  have hb2 : Below w1.heap.size w1 (w1.alloc (.cells #[.slice none 0 0, .int .i64 0, .int .u32 0] 30)) := (Below.refl _ _).alloc (Nat.le_refl _) _
  have HL0 : Hid (HLog w1.heap.size (w1.alloc (.cells #[.slice none 0 0, .int .i64 0, .int .u32 0] 30)) q w1.heap.size (.slice none 0 0) [] 0 0 l bad) := ⟨heap_alloc_new _ _, World.ownsRow_nil _ _ 3 1, (h.below hb1).below hb2, hb2.size, by have := h.lt; omega, Nat.le_refl _⟩
  have HY0 := hid ((heap_alloc_old w1 (.cells #[.slice none 0 0, .int .i64 0, .int .u32 0] 30) (by omega)).trans hy1)
  have HO0 : Hid (Only q none w1 (w1.alloc (.cells #[.slice none 0 0, .int .i64 0, .int .u32 0] 30))) := Only.of_below hb2
  have HB1 := hid hb1
  have HS1 := hid hs1
  have HQ := hid h.lt
  have HLL := hid hl
  have hmn : (if (((eN l).2.length : Nat) : Int) < (((eN l).1 : Nat) : Int) then (((eN l).2.length : Nat) : Int) else (((eN l).1 : Nat) : Int)) = ((hCount l : Nat) : Int) := by unfold hCount; split <;> omega
  have hmn2 : (if (eN l).2.length < (eN l).1 then (((eN l).2.length : Nat) : Int) else (((eN l).1 : Nat) : Int)) = ((hCount l : Nat) : Int) := by unfold hCount; split <;> omega
  have HLE : Hid (hCount l ≤ (eN l).2.length) := Nat.min_le_right _ _
  have HLG : Hid ((hLog l).1.segs = ((eN l).2.take (hCount l)).map (fun n : Nat => (n : Int)) ∧ (hLog l).1.len = (((eN ((eN l).2.drop (hCount l))).1 : Nat) : Int) ∧ (hLog l).1.last = le (q4 (eN ((eN l).2.drop (hCount l))).2) ∧ (hLog l).2 = (eN ((eN l).2.drop (hCount l))).2.drop 4) := ⟨rfl, rfl, rfl, rfl⟩
  have HEN : Hid ((eN l).2.length ≤ 1000) := by
    obtain ⟨k, hk⟩ := eNum_sub 9 0 0 l
    show (eNum 9 0 0 l).2.1.length ≤ 1000
    rw [hk, List.length_drop]; omega
  clear hb1 hs1 hy1 hb2 h hl
  go_enter Try.func49, Try.ntmps49
  go_wp2_with fail
  rw [← hw1]
  rw [show w.heap.size + 1 = w1.heap.size by rw [HS1.out]]
  clear hw1
  generalize w1.alloc (.cells #[.slice none 0 0, .int .i64 0, .int .u32 0] 30) = w2 at *
  generalize hx : w1.heap.size = x at *
  generalize hy : w.heap.size = y at *
  have HXe := hid hx
  have HYe := hid hy
  clear hx hy
  refine (num_any HL0.out.2.2.1).mono ?_
  rintro e w3 ⟨rfl, he3, ho3⟩
  have HL3 := hid (HL0.out.eye he3 ho3)
  have HO3 := hid (HO0.out.trans ho3 (.inl rfl))
  have HY3 := hid ((ho3.block y (Array.getElem?_eq_some_iff.1 HY0.out).1 (by have := HQ.out; omega) (by simp)).trans HY0.out)
  rw [show ((eNum 9 0 0 l).1) = (eN l).1 from rfl]
  rw [show ((eNum 9 0 0 l).2.1) = (eN l).2 from rfl] at HL3
  have hkl := left_any HL3.out.2.2.1
  generalize (bad || (eNum 9 0 0 l).2.2) = bad3 at *
  clear he3 ho3 HL0 HO0 HY0
  generalize (eN l).1 = N1 at *
  generalize (eN l).2 = L1 at *
  generalize hCount l = hC at *
  go_wp2_with fail
  refine hkl.mono ?_
  rintro e w4 ⟨rfl, rfl⟩
  clear hkl
  go_wp2_with fail
  go_loopg [12] hC (fun t v12 wr => ∃ (j : Nat) (v : Value) (bad2 : Bool), j + t = hC ∧ v12 = .int .i64 (j : Int) ∧ HLog x wr q x v ((L1.take j).map fun n : Nat => (n : Int)) 0 0 (L1.drop j) bad2 ∧ Only q none w1 wr ∧ wr.heap[y]? = some (.cells #[.slice none 0 0, .int .i64 0, .int .u32 0] 30 (0, 0)))
  case atStart => exact ⟨0, _, bad3, by omega, rfl, HL3.out, HO3.out, HY3.out⟩
  case round =>
    obtain ⟨j, v, bad2, hj, rfl, hL, hO, hY⟩ := hrel
    have HJ := hid hj
    have HLj := hid hL
    have HOj := hid hO
    have HYj := hid hY
    clear hmn hmn2 HL3 HO3 HY3
    by_cases hjc : j < hC
    · have hji : (j : Int) < (hC : Int) := by omega
      have HJC := hid hjc
      have hj9 : (j : Int) ≤ 1000 := by have := HEN.out; have := HLE.out; omega
      have hjl : j < L1.length := by have := HLE.out; omega
      have kb := byte_any (hL.drew.2.2.1)
      have e1 : (L1.drop j).getD 0 0 = L1.getD j 0 := by simp [List.getD_eq_getElem?_getD]
      have e2 : (L1.drop j).tail = L1.drop (j + 1) := by simp
      have e3 : ((L1.take j).map fun n : Nat => (n : Int)) ++ [((L1.getD j 0 : Nat) : Int)] = (L1.take (j + 1)).map fun n : Nat => (n : Int) := by
        rw [List.take_succ_eq_append_getElem hjl, List.map_append]
        simp [List.getD_eq_getElem?_getD, List.getElem?_eq_getElem hjl]
      have e4 : ((L1.take j).map fun n : Nat => (n : Int)).length = j := by simp; omega
      rw [e1, e2] at kb
      have hB := Pen.getD_lt (l := L1.drop j) hL.2.2.1.2.2 0
      rw [e1] at hB
      generalize hbb : L1.getD j 0 = b at *
      have hwb := wrap_i64 b (by omega)
      have HE3 := hid e3
      have HE4 := hid e4
      have hc0 := hL.cells.1
      have HKB := hid kb
      clear hL hO hY hj e1 e2 e3 e4 hbb hB kb
      go_wp2_with fail
      go_region_law (first
        | (rw [if_pos (by rfl)]; go_simp; refine HKB.out.mono ?_; rintro e w5 ⟨rfl, he5, ho5⟩; have h5 := HLj.out.drew.eye he5 ho5; obtain ⟨g6, c6, w6, hrun6, hc6, hf6, h6, b6⟩ := h5.more (b : Int) (by rw [HE4.out]; have := HEN.out; omega); rw [HE3.out, HE4.out] at h6; rw [HE4.out] at hrun6 b6; have hx5 := h5.cells.1; have hxA := (World.cell?_alloc_some w5 ⟨x, 0, none⟩ (.cells #[.int .i64 (b : Int)] 3) (by rw [hx5]; rfl)).trans hx5; have HRUN := hid hrun6; have H6 := hid h6; have HB6 := hid b6; have HO5 := hid ho5; clear hrun6 h6 b6 he5 ho5 h5)
        | (refine step_app2 22 rfl _ _ rfl _ _ rfl rfl _ w6 HRUN.out ?_))
      all_goals (
        have HO6 := hid ((HOj.out.drew.trans HO5.out (.inl rfl)).then_low HXe.out HB6.out)
        have HY6 := hid ((HB6.out.block y (by have := HS1.out; have := HXe.out; omega)).trans ((HO5.out.block y (Array.getElem?_eq_some_iff.1 HYj.out).1 (by have := HQ.out; omega) (by simp)).trans HYj.out))
        generalize w6.setCell ⟨x, 0, none⟩ (.slice (some ⟨g6, 0, none⟩) (j + 1) c6) = w7 at *
        clear HB6 HO5 hx5 hxA hc6 hf6 HRUN
        go_wp2_with fail
        go_roundg (gk - 1)
        case measure => have := HJ.out; have := HJC.out; omega
        case rel => exact ⟨j + 1, _, _, by have := HJ.out; have := HJC.out; omega, by go_num, H6.out, HO6.out, HY6.out⟩)
    · have hji : ¬ (j : Int) < (hC : Int) := by omega
      obtain rfl : j = hC := by omega
      clear hL hO hY hj
      go_wp2_with fail
      refine (num_any HLj.out.2.2.1).mono ?_
      rintro e w3 ⟨rfl, he3, ho3⟩
      have hl3 := HLj.out.eye he3 ho3
      have hy3 := (ho3.block y (Array.getElem?_eq_some_iff.1 HYj.out).1 (by have := HQ.out; omega) (by simp)).trans HYj.out
      have hxl : x ≤ w3.heap.size := hl3.2.2.2.1
      rw [show ((eNum 9 0 0 (L1.drop j)).1) = (eN (L1.drop j)).1 from rfl]
      rw [show ((eNum 9 0 0 (L1.drop j)).2.1) = (eN (L1.drop j)).2 from rfl] at hl3
      generalize (bad2 || (eNum 9 0 0 (L1.drop j)).2.2) = bad3 at *
      generalize (eN (L1.drop j)).1 = N2 at *
      generalize (eN (L1.drop j)).2 = L2 at *
      have hyx : y < x := by have := HS1.out; have := HXe.out; omega
      have HL4 := hid (hl3.setLen (N2 : Int))
      have HO4 := hid ((HOj.out.trans ho3 (.inl rfl)).then_low HXe.out (Below.setCell (Below.refl x w3) (p := ⟨x, 1, none⟩) (Nat.le_refl x) (.int .i64 (N2 : Int))))
      have HY4 := hid ((Below.heap_setCell w3 ⟨x, 1, none⟩ (.int .i64 (N2 : Int)) y (by show y ≠ x; omega)).trans hy3)
      obtain ⟨c0, c1, c2, cf⟩ := hl3.cells
      have cf1 := cf 1
      clear he3 ho3 hl3 hy3 hxl HLj HOj HYj
      go_wp2_with fail
      clear c0 c1 c2 cf cf1
      generalize w3.setCell ⟨x, 1, none⟩ (.int .i64 (N2 : Int)) = w4 at *
      have H256 := hid (HL4.out.2.2.1.2.2)
      go_loopg [5, 26] 4 (fun t v5 v26 wr => ∃ (i : Nat) (bad4 : Bool), i + t = 4 ∧ v26 = .int .i64 (i : Int) ∧ HLog x wr q x v ((L1.take j).map fun n : Nat => (n : Int)) (N2 : Int) (le ((q4 L2).take i)) (L2.drop i) bad4 ∧ Only q none w1 wr ∧ wr.heap[y]? = some (.cells #[.slice none 0 0, .int .i64 0, .int .u32 0] 30 (0, 0)))
      case atStart => exact ⟨0, bad3, rfl, rfl, HL4.out, HO4.out, HY4.out⟩
      case round =>
        obtain ⟨i, bad4, hi, rfl, hL, hO, hY⟩ := hrel
        have HI := hid hi
        have HLi := hid hL
        have HOi := hid hO
        have HYi := hid hY
        clear HL4 HO4 HY4
        by_cases hi4 : i < 4
        · have hii : (i : Int) < 4 := by omega
          have kb := byte_any (hL.drew.2.2.1)
          have e1 : (L2.drop i).getD 0 0 = (q4 L2).getD i 0 := by
            rw [List.getD_eq_getElem?_getD, List.getElem?_drop, Nat.add_zero, ← List.getD_eq_getElem?_getD]
            rcases (by omega : i = 0 ∨ i = 1 ∨ i = 2 ∨ i = 3) with rfl | rfl | rfl | rfl <;> rfl
          have e2 : (L2.drop i).tail = L2.drop (i + 1) := by simp
          have hq4 : ∀ x ∈ q4 L2, x < 256 := by
            intro x hx
            simp only [q4, List.mem_cons, List.not_mem_nil, or_false] at hx
            rcases hx with rfl | rfl | rfl | rfl <;> exact Pen.getD_lt H256.out _
          have hor := last_or (q4 L2) i hq4 hi4 rfl
          rw [e1, e2] at kb
          have hB := Pen.getD_lt hq4 i
          have hc2 := hL.cells.2.2.1
          generalize (q4 L2).getD i 0 = b at *
          generalize le ((q4 L2).take i) = K0 at *
          generalize hK1 : le ((q4 L2).take (i + 1)) = K1 at *
          have HK1 := hid hK1
          clear hK1
          have hw1 := wrap_u32 b (by omega)
          have hw2 : IntKind.i64.wrap (8 * (i : Int)) = 8 * (i : Int) := by have := wrap_i64 (8 * i) (by omega); simpa using this
          have HKB := hid kb
          have HOR := hid hor
          have HI4 := hid hi4
          have HBb := hid hB
          clear hL hO hY hi e1 e2 kb hq4 hor hB
          go_wp2_with fail
          go_region_law (first
            | (rw [if_pos (by rfl)]; go_simp; refine HKB.out.mono ?_; rintro e w5 ⟨rfl, he5, ho5⟩; have h5 := HLi.out.drew.eye he5 ho5; obtain ⟨x0, x1, x2, xf⟩ := h5.cells; have xf2 := xf 2; have H5 := hid h5; have HO5 := hid ho5; clear he5 ho5 h5 x0 x1 xf))
          all_goals (
            rw [show (8 * (i : Int)).toNat = 8 * i by omega, HOR.out]
            have HL6 := hid (H5.out.setLast K1)
            have hyx : y < x := by have := HS1.out; have := HXe.out; omega
            have HO6 := hid ((HOi.out.drew.trans HO5.out (.inl rfl)).then_low HXe.out (Below.setCell (Below.refl x w5) (p := ⟨x, 2, none⟩) (Nat.le_refl x) (.int .u32 (K1 : Int))))
            have HY6 := hid ((Below.heap_setCell w5 ⟨x, 2, none⟩ (.int .u32 (K1 : Int)) y (by show y ≠ x; omega)).trans ((HO5.out.block y (Array.getElem?_eq_some_iff.1 HYi.out).1 (by have := HQ.out; omega) (by simp)).trans HYi.out))
            generalize w5.setCell ⟨x, 2, none⟩ (.int .u32 (K1 : Int)) = w6 at *
            clear H5 HO5 x2 xf2 HOR hw1 hw2
            go_wp2_with fail
            go_roundg (gk - 1)
            case measure => have := HI.out; have := HI4.out; omega
            case rel => exact ⟨i + 1, _, by have := HI.out; have := HI4.out; omega, by go_num, by rw [HK1.out]; exact HL6.out, HO6.out, HY6.out⟩)
        · have hii : ¬ (i : Int) < 4 := by omega
          obtain rfl : i = 4 := by omega
          obtain ⟨c0, c1, c2, cf⟩ := hL.cells
          have hq4 : le ((q4 L2).take 4) = le (q4 L2) := rfl
          rw [hq4] at c2 HLi
          obtain ⟨a9, c9, e9, r9, n9⟩ := irow_of_owns hL.2.1
          have e4 : ((L1.take j).map fun n : Nat => (n : Int)).length = j := by simp; have := HLE.out; omega
          rw [e4] at e9
          subst e9
          have hst := run_storeAt_row wr y 0 30 30 [.slice none 0 0, .int .i64 0, .int .u32 0] [.slice a9 j c9, .int .i64 (N2 : Int), .int .u32 ((le (q4 L2) : Nat) : Int)] hY (by kernel_rfl) (by simp) (by intro v hv; simp at hv; rcases hv with rfl | rfl | rfl <;> rfl)
          rw [splice_all _ _ (by simp)] at hst
          have hyx : y < x := by have := HS1.out; have := HXe.out; omega
          have hyn : ∀ v, a9 = some v → v.block ≠ y := fun v hv => by have := n9 v hv; omega
          have HST := hid hst
          have HRY := hid (setRow_heap wr y _ #[.slice a9 j c9, .int .i64 (N2 : Int), .int .u32 ((le (q4 L2) : Nat) : Int)] 30 (0, 0) hY)
          have HEY := hid (HLi.out.2.2.1.kept (setRow_other wr y q #[.slice a9 j c9, .int .i64 (N2 : Int), .int .u32 ((le (q4 L2) : Nat) : Int)] (by have := HQ.out; omega)))
          have HRI : Hid (IRow (wr.setRow y #[.slice a9 j c9, .int .i64 (N2 : Int), .int .u32 ((le (q4 L2) : Nat) : Int)]) a9 ((L1.take j).map fun n : Nat => (n : Int))) := by
            rcases r9 with h | ⟨b, off, ha, hlt, hc⟩
            · exact .inl h
            · refine .inr ⟨b, off, ha, by simpa [World.setRow] using hlt, fun k hk => ?_⟩
              rw [← hc k hk]
              have : (wr.setRow y #[.slice a9 j c9, .int .i64 (N2 : Int), .int .u32 ((le (q4 L2) : Nat) : Int)]).heap[b]? = wr.heap[b]? := setRow_other _ _ _ _ (hyn _ ha)
              simp only [World.cell?, this]
          have HOE : Hid (Only q none w (wr.setRow y #[.slice a9 j c9, .int .i64 (N2 : Int), .int .u32 ((le (q4 L2) : Nat) : Int)])) := by
            refine (Only.of_below (q := q) (o := none) (show Below w.heap.size w w1 from HYe.out ▸ HB1.out)).trans ?_ (.inl rfl) |>.then_low HYe.out (below_setRow (Below.refl y _) (Nat.le_refl y) _)
            exact HOi.out
          have HN9 := hid n9
          have HE4 := hid e4
          clear hL hO hY hi r9 n9 e4 hst hyn cf
          have tok : True := trivial
          go_wp2_with (have _t := tok; refine step_store 30 rfl _ _ rfl _ HST.out ?_; clear tok)
          generalize wr.setRow y #[.slice a9 j c9, .int .i64 (N2 : Int), .int .u32 ((le (q4 L2) : Nat) : Int)] = w9 at *
          obtain ⟨g1, g2, g3, g4⟩ := HLG.out
          refine bodyPost_ret (v := .agg #[.slice a9 j c9, .int .i64 (N2 : Int), .int .u32 ((le (q4 L2) : Nat) : Int)]) (results_cell_row (ty := 30) (p := 2) Try.results49 _ _ y 30 _ (0, 0) _ rfl HRY.out Try.underlying30 rfl (by kernel_rfl)) rfl ?_
          refine ⟨a9, j, ⟨c9, ?_⟩, ?_, ?_, ?_, ?_, HOE.out⟩
          · rw [g2, g3]
          · rw [g1]; exact HE4.out
          · rw [g1]; exact HRI.out
          · intro v hv; have := HN9.out v hv; have := HS1.out; have := HXe.out; have := HYe.out; omega
          · rw [g4]
            have h := HEY.out
            cases bad4
            · exact .inl h
            · exact .inr h
end Go.Proofs.Ytmfmhlhpleahpaa
