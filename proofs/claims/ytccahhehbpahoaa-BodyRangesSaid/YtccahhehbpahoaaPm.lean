/- Rows of parts in memory, those of the program's kind and those of the document's own. No condition. -/
import Derived.Test.YtccahhehbpahoaaBMath
import Derived.Test.YtccahhehbpahoaaCkM
import Derived.Lib.SmallJoins
namespace Go.Proofs.Ytccahhehbpahoaa
open Go.ChangeShapes Go.WideShapes Go.ChangeAt Go.RowKit Go.Deep
set_option maxRecDepth 4000
set_option linter.unusedVariables false
def pvals (l : List Pt) : List Value := l.flatMap fun p => [.int .i64 p.off, .int .i64 p.len, .int .i64 p.ch, .int .i64 p.pos]
theorem pvals_app (a b : List Pt) : pvals (a ++ b) = pvals a ++ pvals b := by simp [pvals]
theorem pvals_cons (p : Pt) (l : List Pt) : pvals (p :: l) = .int .i64 p.off :: .int .i64 p.len :: .int .i64 p.ch :: .int .i64 p.pos :: pvals l := rfl
theorem pvals_len (l : List Pt) : (pvals l).length = l.length * 4 := by
  induction l with
  | nil => rfl
  | cons p l ih => rw [pvals_cons]; simp only [List.length_cons, ih]; omega
theorem pvals_one (l : List Pt) : ∀ u ∈ pvals l, u.oneCell' = true := by
  intro u hu
  obtain ⟨p, _, h⟩ := List.mem_flatMap.1 hu
  simp at h
  rcases h with rfl | rfl | rfl | rfl <;> rfl
theorem pvals_get (l : List Pt) (i : Nat) (hi : i < l.length) : (pvals l)[i * 4]? = some (.int .i64 (l.getD i pt0).off) ∧ (pvals l)[i * 4 + 1]? = some (.int .i64 (l.getD i pt0).len) ∧ (pvals l)[i * 4 + 2]? = some (.int .i64 (l.getD i pt0).ch) ∧ (pvals l)[i * 4 + 3]? = some (.int .i64 (l.getD i pt0).pos) := by
  induction l generalizing i with
  | nil => simp at hi
  | cons p l ih =>
    rw [pvals_cons]
    cases i with
    | zero => exact ⟨rfl, rfl, rfl, rfl⟩
    | succ i =>
      have := ih i (by simpa using hi)
      have h2 : (i + 1) * 4 = i * 4 + 1 + 1 + 1 + 1 := by omega
      rw [h2]
      exact this
def PartAt (w : World) (b off : Nat) (p : Pt) : Prop :=
  w.cell? ⟨b, off, none⟩ = some (.int .i64 p.off) ∧ w.cell? ⟨b, off + 1, none⟩ = some (.int .i64 p.len) ∧ w.cell? ⟨b, off + 2, none⟩ = some (.int .i64 p.ch) ∧ w.cell? ⟨b, off + 3, none⟩ = some (.int .i64 p.pos)
/-- The parts l lie where the slice that begins at a leads. -/
def PRow (w : World) (a : Option Addr) (l : List Pt) : Prop :=
  l = [] ∨ ∃ b off, a = some ⟨b, off, none⟩ ∧ b < w.heap.size ∧ ∀ i, i < l.length → PartAt w b (off + i * 4) (l.getD i pt0)
theorem PRow.nil (w : World) (a : Option Addr) : PRow w a [] := .inl rfl
theorem PRow.below {w w' : World} {a : Option Addr} {l : List Pt} (h : PRow w a l) (hb : Below w.heap.size w w') : PRow w' a l := by
  rcases h with h | ⟨b, off, ha, hlt, hc⟩
  · exact .inl h
  · refine .inr ⟨b, off, ha, Nat.lt_of_lt_of_le hlt hb.size, fun i hi => ?_⟩
    obtain ⟨h0, h1, h2, h3⟩ := hc i hi
    have cell : ∀ k, w'.cell? ⟨b, k, none⟩ = w.cell? ⟨b, k, none⟩ := fun k => hb.cell (p := ⟨b, k, none⟩) hlt
    exact ⟨(cell _).trans h0, (cell _).trans h1, (cell _).trans h2, (cell _).trans h3⟩
theorem PRow.at_ {w : World} {a : Option Addr} {l : List Pt} (h : PRow w a l) (hne : l ≠ []) : ∃ b off, a = some ⟨b, off, none⟩ ∧ b < w.heap.size ∧ ∀ i, i < l.length → PartAt w b (off + i * 4) (l.getD i pt0) := by
  rcases h with h | h
  · exact absurd h hne
  · exact h
theorem PRow.part {w : World} {a : Option Addr} {l : List Pt} (h : PRow w a l) {i : Nat} (hi : i < l.length) : ∃ b off, a = some ⟨b, off, none⟩ ∧ b < w.heap.size ∧ PartAt w b (off + i * 4) (l.getD i pt0) := by
  obtain ⟨b, off, h1, h2, h3⟩ := h.at_ (by intro e; rw [e] at hi; simp at hi)
  exact ⟨b, off, h1, h2, h3 i hi⟩
/-- A part of a row, in whatever later world. -/
theorem PRow.later {w : World} {a : Option Addr} {l : List Pt} (h : PRow w a l) {i : Nat} (hi : i < l.length) : ∃ b off, a = some ⟨b, off, none⟩ ∧ b < w.heap.size ∧ ∀ W, Below w.heap.size w W → PartAt W b (off + i * 4) (l.getD i pt0) := by
  obtain ⟨b, off, h1, h2, h3⟩ := h.part hi
  refine ⟨b, off, h1, h2, fun W hW => ?_⟩
  obtain ⟨e0, e1, e2, e3⟩ := h3
  have cell : ∀ k, W.cell? ⟨b, k, none⟩ = w.cell? ⟨b, k, none⟩ := fun k => hW.cell (p := ⟨b, k, none⟩) h2
  exact ⟨(cell _).trans e0, (cell _).trans e1, (cell _).trans e2, (cell _).trans e3⟩
theorem size58 : (Try.prog.info? 58).map (fun x => x.size) = some 4 := by kernel_rfl
theorem size45 : (Try.prog.info? 45).map (fun x => x.size) = some 4 := by kernel_rfl
theorem load58_at {w : World} {b off : Nat} {p : Pt} (h : PartAt w b off p) : (Instr.loadAt 58 (.pointer (some ⟨b, off, none⟩))).run Try.prog w = .ok (.agg #[.int .i64 p.off, .int .i64 p.len, .int .i64 p.ch, .int .i64 p.pos]) w := by
  obtain ⟨h0, h1, h2, h3⟩ := h
  refine run_loadAt_mid w b off 58 [_, _, _, _] _ (fun j v hv => ?_) Try.underlying58 rfl (by exact size58)
  match j, hv with
  | 0, hv => simp at hv; subst hv; exact h0
  | 1, hv => simp at hv; subst hv; exact h1
  | 2, hv => simp at hv; subst hv; exact h2
  | 3, hv => simp at hv; subst hv; exact h3
  | j + 4, hv => simp at hv
theorem load45_at {w : World} {b off : Nat} {p : Pt} (h : PartAt w b off p) : (Instr.loadAt 45 (.pointer (some ⟨b, off, none⟩))).run Try.prog w = .ok (.agg #[.int .i64 p.off, .int .i64 p.len, .int .i64 p.ch, .int .i64 p.pos]) w := by
  obtain ⟨h0, h1, h2, h3⟩ := h
  refine run_loadAt_mid w b off 45 [_, _, _, _] _ (fun j v hv => ?_) Try.underlying45 rfl (by exact size45)
  match j, hv with
  | 0, hv => simp at hv; subst hv; exact h0
  | 1, hv => simp at hv; subst hv; exact h1
  | 2, hv => simp at hv; subst hv; exact h2
  | 3, hv => simp at hv; subst hv; exact h3
  | j + 4, hv => simp at hv

/-! ### Rows of one's own -/
/-- A row of parts of the call's own: e is the kind of its cells. -/
def POwn (e : TypeId) (B : Nat) (w : World) (v : Value) (l : List Pt) : Prop := w.ownsRow B e 4 v l.length (pvals l)
theorem POwn.nil (e : TypeId) (B : Nat) (w : World) : POwn e B w (.slice none 0 0) [] := World.ownsRow_nil _ _ e 4
theorem POwn.below {e : TypeId} {B : Nat} {w w' : World} {v : Value} {l : List Pt} (h : POwn e B w v l) (hb : Below w.heap.size w w') : POwn e B w' v l :=
  owns_keep h fun k cur _ _ hk => (hb.block k (lt_of_some hk)).trans hk
theorem POwn.low {e : TypeId} {B B' : Nat} {w : World} {v : Value} {l : List Pt} (h : POwn e B w v l) (hb : B' ≤ B) : POwn e B' w v l := owns_up h hb
/-- What such a row says: where it lies, what is there. -/
theorem POwn.row {e : TypeId} {B : Nat} {w : World} {v : Value} {l : List Pt} (h : POwn e B w v l) : ∃ a cap, v = .slice a l.length cap ∧ l.length ≤ cap ∧ cap ≤ maxLen ∧ PRow w a l ∧ (a = none → cap = 0) := by
  rcases h.2 with ⟨rfl, h0⟩ | ⟨g, cap, cur, rfl, hb, hg, hc, hm, hs, ht⟩
  · obtain rfl : l = [] := List.length_eq_zero_iff.1 h0
    exact ⟨none, 0, rfl, Nat.le_refl _, Nat.zero_le _, .inl rfl, fun _ => rfl⟩
  · refine ⟨_, cap, rfl, hc, hm, .inr ⟨g, 0, rfl, lt_of_some hg, fun i hi => ?_⟩, by simp⟩
    obtain ⟨h0, h1, h2, h3⟩ := pvals_get l i hi
    have f : ∀ k, k < 4 → ∀ u, (pvals l)[i * 4 + k]? = some u → w.cell? ⟨g, 0 + i * 4 + k, none⟩ = some u := by
      intro k hk u hu
      rw [cell_of_row w g _ cur e (0, 0) hg, Nat.zero_add]
      rw [← ht, List.getElem?_take, if_pos (by omega)] at hu
      simpa using hu
    exact ⟨f 0 (by omega) _ h0, f 1 (by omega) _ h1, f 2 (by omega) _ h2, f 3 (by omega) _ h3⟩
theorem info58 : (Try.prog.info? 58).map (fun i => (i.zero, i.size, i.bytes)) = some (some (.agg #[.int .i64 0, .int .i64 0, .int .i64 0, .int .i64 0]), 4, 32) := by kernel_rfl
theorem info45 : (Try.prog.info? 45).map (fun i => (i.zero, i.size, i.bytes)) = some (some (.agg #[.int .i64 0, .int .i64 0, .int .i64 0, .int .i64 0]), 4, 32) := by kernel_rfl
/-- What the kind of a row and of its cells must be. -/
structure Kind (t e : TypeId) : Prop where
  slice : Try.prog.underlying t = some (.slice e)
  info : (Try.prog.info? e).map (fun i => (i.zero, i.size, i.bytes)) = some (some (.agg #[.int .i64 0, .int .i64 0, .int .i64 0, .int .i64 0]), 4, 32)
  size : ∀ w, (sizeOf e).run Try.prog w = .ok 4 w
theorem kind27 : Kind 27 58 := ⟨Try.underlying27, info58, fun w => by kernel_rfl⟩
theorem kind22 : Kind 22 45 := ⟨Try.underlying22, info45, fun w => by kernel_rfl⟩
theorem pnews_of {w : World} {b off : Nat} {l : List Pt} (h : ∀ i, i < l.length → PartAt w b (off + i * 4) (l.getD i pt0)) : ∀ j u, (pvals l)[j]? = some u → w.cell? ((⟨b, off, none⟩ : Addr).add j) = some u := by
  intro j u hu
  have hj : j < l.length * 4 := by have := (List.getElem?_eq_some_iff.1 hu).1; rwa [pvals_len] at this
  have hadd : (⟨b, off, none⟩ : Addr).add j = ⟨b, off + j, none⟩ := by unfold Addr.add; split <;> simp_all
  rw [hadd]
  obtain ⟨i, k, hk, rfl⟩ : ∃ i k, k < 4 ∧ j = i * 4 + k := ⟨j / 4, j % 4, Nat.mod_lt _ (by decide), by omega⟩
  have hi : i < l.length := by omega
  obtain ⟨g0, g1, g2, g3⟩ := pvals_get l i hi
  obtain ⟨h0, h1, h2, h3⟩ := h i hi
  rw [← Nat.add_assoc]
  match k, hk with
  | 0, _ => rw [Nat.add_zero] at hu ⊢; rw [h0, ← g0, hu]
  | 1, _ => rw [h1, ← g1, hu]
  | 2, _ => rw [h2, ← g2, hu]
  | 3, _ => rw [h3, ← g3, hu]
/-- An append of parts, none among them, onto a row of one's own. -/
theorem POwn.app {t e : TypeId} (K : Kind t e) {B : Nat} {W : World} {v : Value} {l1 : List Pt} (h : POwn e B W v l1) (a : Option Addr) (l : List Pt) (n cap : Nat) (hn : l.length = n) (hr : PRow W a l) (hsz : l1.length + n ≤ 1000000) (hB : B ≤ W.heap.size) :
    ∃ v' w', (∀ ty, (Builtin.append_ #[t, t] ty #[v, .slice a n cap]).run Try.prog W = .ok v' w') ∧ POwn e B w' v' (l1 ++ l) ∧ Below B W w' ∧ W.grownBy w' v.ownBlock := by
  by_cases hne : l = []
  · subst hne
    obtain rfl : 0 = n := hn
    have hl : ∀ x : Addr, (loadCells x 0).run Try.prog W = .ok #[] W := fun x => run_loadCells_list (P := Try.prog) W x [] (by simp)
    obtain ⟨i, hi5, hzz⟩ := Option.map_eq_some_iff.1 K.info
    simp only [Prod.mk.injEq] at hzz
    refine ⟨v, W, fun ty => ?_, by rw [List.append_nil]; exact h, Below.refl _ _, World.grownBy.refl _ _⟩
    rcases h.2 with ⟨rfl, h0⟩ | ⟨g, c, cur, rfl, _, _, h, _⟩
    · cases a with
      | none => simp [Builtin.append_, run_underlying K.slice, Builtin.lenOf, Builtin.firstCells, K.size]
      | some x => simp [Builtin.append_, run_underlying K.slice, Builtin.lenOf, Builtin.firstCells, hl, K.size]
    · cases a with
      | none => simp [Builtin.append_, run_underlying K.slice, Builtin.lenOf, Builtin.firstCells, h, storeCells, K.size]
      | some x => simp [Builtin.append_, run_underlying K.slice, Builtin.lenOf, Builtin.firstCells, h, storeCells, hl, K.size]
  · subst hn
    rcases hr with h0 | ⟨b, off, rfl, _, hc⟩
    · exact absurd h0 hne
    obtain ⟨i, hi5, hzz⟩ := Option.map_eq_some_iff.1 K.info
    simp only [Prod.mk.injEq] at hzz
    have hr := fun ty => run_append_lies (P := Try.prog) W t ty B e i (.agg #[.int .i64 0, .int .i64 0, .int .i64 0, .int .i64 0]) 4 32 K.slice hi5 hzz.1 hzz.2.1 hzz.2.2 rfl (by decide) v l1.length (pvals l1) h ⟨b, off, none⟩ l.length cap (pvals l) (pvals_len l) (pnews_of hc) (pvals_one l) (List.length_pos_iff.2 hne) (by unfold maxLen; omega) (by omega) hB _ rfl
    obtain ⟨g, cap', w', hrun, h2, h3, _⟩ := hr 0
    refine ⟨_, w', fun ty => (by first | exact hrun | (rw [← hrun]; rfl)), ?_, (Below.refl B W).grown h3 hB ?_, h3⟩
    · unfold POwn
      rw [pvals_app, List.length_append]
      exact h2
    · rcases h.2 with ⟨rfl, _⟩ | ⟨g', c', cur, rfl, hb', _⟩
      · intro k hk; simp [Value.ownBlock] at hk
      · intro k hk; simp [Value.ownBlock] at hk; omega
/-- One part, as it is built to be appended. -/
theorem prow_one {w : World} {y : Nat} {e : TypeId} {p : Pt} (h : w.heap[y]? = some (.cells #[.int .i64 p.off, .int .i64 p.len, .int .i64 p.ch, .int .i64 p.pos] e (0, 0))) : PRow w (some ⟨y, 0, none⟩) [p] := by
  refine .inr ⟨y, 0, rfl, lt_of_some h, fun i hi => ?_⟩
  obtain rfl : i = 0 := by simpa using hi
  exact ⟨by rw [cell_of_row w y _ _ e (0, 0) h]; rfl, by rw [cell_of_row w y _ _ e (0, 0) h]; rfl, by rw [cell_of_row w y _ _ e (0, 0) h]; rfl, by rw [cell_of_row w y _ _ e (0, 0) h]; rfl⟩
theorem step_app {ops : Array Oper} {rest : List Oper} {o : Oper} {act : Act} {Q : Exit → Act → World → Prop} (W : World) (t : TypeId) (hgd : o.guard = none) (s x : Operand)
    (ho : o.op = .call { callee := .builtin .append, args := #[s, x], argTypes := #[t, t] }) (u v : Value) (hs : act.eval s = u) (hx : act.eval x = v) (r : Value) (w' : World) (hrun : ∀ ty, (Builtin.append_ #[t, t] ty #[u, v]).run Try.prog W = .ok r w')
    (h : wpList Try.prog ops Q rest (act.put o.dst r) w') : wpList Try.prog ops Q (o :: rest) act W :=
  wpList_plain hgd fun _ hK => by
    unfold Oper.wp execOp
    simp only [ho, resolve, invoke, builtin, Sem.run_bind, Sem.run_pure, Result.andThen_ok, List.map_toArray, List.map_cons, List.map_nil, hs, hx, hrun]
    exact hK _ _ h

/-! ### Rows that come in -/
theorem part_of {H : Type} {enc : TypeId × Value → H} {w : World} {fuel : Nat} {cs : List Value} {x : DataW H × List MemPlace} (h : DataW.trod enc Try.prog w 0 (fun _ => true) true fuel 45 cs = some x) :
    ∃ p : Pt, cs = [.int .i64 p.off, .int .i64 p.len, .int .i64 p.ch, .int .i64 p.pos] ∧ (Lit.int .i64 p.off).wf = true ∧ (Lit.int .i64 p.len).wf = true ∧ (Lit.int .i64 p.ch).wf = true ∧ (Lit.int .i64 p.pos).wf = true := by
  obtain ⟨y0, y1, y2, y3, m, _, hlen, e0, e1, e2, e3⟩ := Joins.trod_struct4 Try.underlying45 h
  have hc45 : Try.prog.cellsOf 45 = 4 := by kernel_rfl
  have hc3 : Try.prog.cellsOf 3 = 1 := by kernel_rfl
  have hc2 : Try.prog.cellsOf 2 = 1 := by kernel_rfl
  rw [hc45] at hlen
  obtain ⟨c0, c1, c2, c3, rfl⟩ : ∃ a b c d, cs = [a, b, c, d] := by
    match cs, hlen with
    | [a, b, c, d], _ => exact ⟨a, b, c, d, rfl⟩
  dsimp only at e0 e1 e2 e3
  rw [hc2] at e0
  rw [hc3] at e1 e2 e3
  change DataW.trod enc Try.prog w 0 _ true m 2 [c0] = some y0 at e0
  change DataW.trod enc Try.prog w 0 _ true m 3 [c1] = some y1 at e1
  change DataW.trod enc Try.prog w 0 _ true m 3 [c2] = some y2 at e2
  change DataW.trod enc Try.prog w 0 _ true m 3 [c3] = some y3 at e3
  obtain ⟨z0, q0, _, w0⟩ := DataW.trod_int Try.underlying2 e0
  obtain ⟨z1, q1, _, w1⟩ := DataW.trod_int Try.underlying3 e1
  obtain ⟨z2, q2, _, w2⟩ := DataW.trod_int Try.underlying3 e2
  obtain ⟨z3, q3, _, w3⟩ := DataW.trod_int Try.underlying3 e3
  have q0' : c0 = _ := List.head_eq_of_cons_eq q0
  have q1' : c1 = _ := List.head_eq_of_cons_eq q1
  have q2' : c2 = _ := List.head_eq_of_cons_eq q2
  have q3' : c3 = _ := List.head_eq_of_cons_eq q3
  subst q0' q1' q2' q3'
  exact ⟨⟨z0, z1, z2, z3⟩, rfl, w0, w1, w2, w3⟩
theorem prow_of {H : Type} {enc : TypeId × Value → H} {w : World} {fuel : Nat} {a : Option Addr} {len cap : Nat} {x : DataW H × List MemPlace} (h : DataW.trod enc Try.prog w 0 (fun _ => true) true fuel 22 [Value.slice a len cap] = some x) :
    ∃ l : List Pt, l.length = len ∧ PRow w a l := by
  have hc45 : Try.prog.cellsOf 45 = 4 := by kernel_rfl
  rcases open_slice Try.underlying22 h with ⟨hcs, _⟩ | ⟨y, l, c, m, n, D, Pl, hcs, _, hl, hm, hmm, _, hx⟩
  · simp at hcs
    obtain ⟨rfl, rfl, rfl⟩ := hcs
    exact ⟨[], rfl, .inl rfl⟩
  · simp at hcs
    obtain ⟨rfl, rfl, rfl⟩ := hcs
    simp only [if_true] at hmm
    subst hmm
    rw [hc45] at hx
    have hrow : ∀ r, ∃ d : Pt, r < len → w.cell? (y.add (r * 4)) = some (.int .i64 d.off) ∧ w.cell? ((y.add (r * 4)).add 1) = some (.int .i64 d.len) ∧ w.cell? ((y.add (r * 4)).add 2) = some (.int .i64 d.ch) ∧ w.cell? ((y.add (r * 4)).add 3) = some (.int .i64 d.pos) := by
      intro r
      by_cases hlt : r < len
      · obtain ⟨cs', h1, h2⟩ := hx r (by omega)
        obtain ⟨d, rfl, _⟩ := part_of h2
        refine ⟨d, fun _ => ?_⟩
        unfold World.cells? at h1
        rw [if_pos (Nat.zero_le _)] at h1
        have g0 := mapM_some_get h1 0 0 rfl
        have g1 := mapM_some_get h1 1 1 rfl
        have g2 := mapM_some_get h1 2 2 rfl
        have g3 := mapM_some_get h1 3 3 rfl
        have ea : (y.add (r * 4)).add 0 = y.add (r * 4) := by simp [Addr.add]
        rw [ea] at g0
        exact ⟨g0, g1, g2, g3⟩
      · exact ⟨pt0, fun h => absurd h hlt⟩
    obtain ⟨f, hf⟩ := Classical.axiomOfChoice hrow
    refine ⟨(List.range len).map f, by simp, ?_⟩
    by_cases h0 : len = 0
    · subst h0; exact .inl (by simp)
    · obtain ⟨b, off, spot⟩ := y
      have hc0 := (hf 0 (by omega)).1
      have hspot : spot = none := by simpa [Addr.add] using World.cell?_spot hc0
      subst hspot
      refine .inr ⟨b, off, rfl, ?_, fun i hi => ?_⟩
      · have := block_lt_of_cell hc0
        simpa [Addr.add] using this
      · have hi1 : i < len := by simpa using hi
        have hg : ((List.range len).map f).getD i pt0 = f i := by simp [hi1]
        have h5 := hf i hi1
        rw [Addr.add_mid, Addr.add_mid, Addr.add_mid, Addr.add_mid] at h5
        rw [hg]
        exact h5
theorem drop_cons {l : List Pt} {i : Nat} (h : i < l.length) : l.drop i = l.getD i pt0 :: l.drop (i + 1) := by
  rw [List.drop_eq_getElem_cons h]
  simp [h]
end Go.Proofs.Ytccahhehbpahoaa
