/- Rows of whole numbers and of slices, appends of one, what stays as it was but for some blocks, a log in memory. No condition. -/
import Derived.Test.YteohjfhflodklaaGrid
import Derived.Test.YteohjfhflodklaaUp
import Derived.Test.YteohjfhflodklaaLMath
import Derived.Lib.AppendZerosOnto
namespace Go.Proofs.Yteohjfhflodklaa
open Go.ChangeShapes Go.WideShapes Go.ChangeAt Go.RowKit Pen
open Crc (four nx run)
set_option maxRecDepth 4000
/-- The whole numbers l lie where the slice that begins at a leads. -/
def IRow (w : World) (a : Option Addr) (l : List Int) : Prop :=
  l = [] ∨ ∃ b off, a = some ⟨b, off, none⟩ ∧ b < w.heap.size ∧ ∀ i, i < l.length → w.cell? ⟨b, off + i, none⟩ = some (.int .i64 (l.getD i 0))
theorem IRow.below {w w' : World} {a : Option Addr} {l : List Int} (h : IRow w a l) (hb : Below w.heap.size w w') : IRow w' a l := by
  rcases h with h2 | ⟨b, off, ha, hlt, hc⟩
  · exact .inl h2
  · exact .inr ⟨b, off, ha, Nat.lt_of_lt_of_le hlt hb.size, fun i hi => (hb.cell (p := ⟨b, off + i, none⟩) hlt).trans (hc i hi)⟩
theorem IRow.only {w w' : World} {q : Nat} {a : Option Addr} {l : List Int} (h : IRow w a l) (hb : Below q w w') (hq : ∀ v, a = some v → v.block < q) : IRow w' a l := by
  rcases h with h2 | ⟨b, off, ha, hlt, hc⟩
  · exact .inl h2
  · exact .inr ⟨b, off, ha, Nat.lt_of_lt_of_le hlt hb.size, fun i hi => (hb.cell (p := ⟨b, off + i, none⟩) (hq ⟨b, off, none⟩ ha)).trans (hc i hi)⟩
theorem IRow.nil (w : World) (a : Option Addr) : IRow w a [] := .inl rfl
def ivals (l : List Int) : List Value := l.map fun n => Value.int .i64 n
theorem ivals_len (l : List Int) : (ivals l).length = l.length := by simp [ivals]
theorem ivals_get (l : List Int) (i : Nat) (hi : i < l.length) : (ivals l)[i]? = some (.int .i64 (l.getD i 0)) := by
  simp [ivals, List.getD_eq_getElem?_getD, List.getElem?_eq_getElem hi]
theorem ivals_one (l : List Int) : ∀ u ∈ ivals l, u.oneCell' = true := by
  intro u hu
  obtain ⟨n, _, rfl⟩ := List.mem_map.1 hu
  rfl
theorem ivals_app (a b : List Int) : ivals (a ++ b) = ivals a ++ ivals b := by simp [ivals]
theorem info3 : (Try.prog.info? 3).map (fun i => (i.zero, i.size, i.bytes)) = some (some (.int .i64 0), 1, 8) := by kernel_rfl
theorem info3' : ∃ i, Try.prog.info? 3 = some i ∧ i.zero = some (.int .i64 0) ∧ i.size = 1 ∧ i.bytes = 8 := by
  obtain ⟨i, hi, hzz⟩ := Option.map_eq_some_iff.1 info3
  simp only [Prod.mk.injEq] at hzz
  exact ⟨i, hi, hzz.1, hzz.2.1, hzz.2.2⟩
theorem irow_of_owns {w : World} {base : Nat} {v : Value} {l : List Int} (h : w.ownsRow base 3 1 v l.length (ivals l)) :
    ∃ a cap, v = .slice a l.length cap ∧ IRow w a l ∧ (∀ x, a = some x → base ≤ x.block) := by
  rcases h.2 with ⟨rfl, h0⟩ | ⟨g, cap, cur, rfl, hb, hg, hc, hm, hs, ht⟩
  · obtain rfl : l = [] := List.length_eq_zero_iff.1 h0
    exact ⟨none, 0, rfl, .inl rfl, by simp⟩
  · refine ⟨_, cap, rfl, .inr ⟨g, 0, rfl, (Array.getElem?_eq_some_iff.1 hg).1, fun i hi => ?_⟩, fun x hx => by simp at hx; rw [← hx]; exact hb⟩
    rw [Nat.zero_add, cell_of_row w g i cur 3 (0, 0) hg]
    have := ivals_get l i hi
    rw [← ht, Nat.mul_one, List.getElem?_take, if_pos hi] at this
    simpa using this
theorem inews_of {w : World} {b off : Nat} {l : List Int} (h : ∀ i, i < l.length → w.cell? ⟨b, off + i, none⟩ = some (.int .i64 (l.getD i 0))) :
    ∀ j u, (ivals l)[j]? = some u → w.cell? ((⟨b, off, none⟩ : Addr).add j) = some u := by
  intro j u hu
  have hj : j < l.length := by have := (List.getElem?_eq_some_iff.1 hu).1; rwa [ivals_len] at this
  have hadd : (⟨b, off, none⟩ : Addr).add j = ⟨b, off + j, none⟩ := by unfold Addr.add; split <;> simp_all
  rw [hadd, h j hj, ← ivals_get l j hj, hu]
theorem run_append_irow (W : World) (ty : TypeId) (base : Nat) (v : Value) (l1 : List Int) (hown : W.ownsRow base 3 1 v l1.length (ivals l1)) (a : Option Addr) (l : List Int) (cap : Nat) (hr : IRow W a l) (hne : l ≠ [])
    (hsz : l1.length + l.length ≤ 1000000000) (hbase : base ≤ W.heap.size) :
    ∃ g cap' w', (Builtin.append_ #[33, 33] ty #[v, .slice a l.length cap]).run Try.prog W = .ok (.slice (some ⟨g, 0, none⟩) (l1 ++ l).length cap') w' ∧
      w'.ownsRow base 3 1 (.slice (some ⟨g, 0, none⟩) (l1 ++ l).length cap') (l1 ++ l).length (ivals (l1 ++ l)) ∧ W.grownBy w' v.ownBlock ∧ (v.ownBlock = some g ∨ W.heap.size ≤ g) := by
  obtain ⟨i3, hi3, hz3, hs3, hy3⟩ := info3'
  rcases hr with h | ⟨b, off, rfl, _, hc⟩
  · exact absurd h hne
  · have h0 : 0 < l.length := List.length_pos_iff.2 hne
    obtain ⟨g, cap', w', hrun, h2, h3, h4, _⟩ := run_append_lies (P := Try.prog) W 33 ty base 3 i3 (.int .i64 0) 1 8 Try.underlying33 hi3 hz3 hs3 hy3 rfl (by decide) v l1.length (ivals l1) hown ⟨b, off, none⟩ l.length cap (ivals l) (by rw [ivals_len, Nat.mul_one]) (inews_of hc) (ivals_one l) h0 (by unfold maxLen; omega) (by omega) hbase _ rfl
    rw [ivals_app, List.length_append]
    exact ⟨g, cap', w', hrun, h2, h3, h4.imp id fun e => by omega⟩
theorem step_app2 {ops : Array Oper} {op : Oper} {a : Act} {w : World} {K : Act → World → Prop} {Q : Exit → Act → World → Prop} {E : Prop} (t : TypeId) (hgd : op.guard = none) (d s : Operand)
    (ho : op.op = .call { callee := .builtin .append, args := #[d, s], argTypes := #[t, t] }) (x y : Value) (hd : a.eval d = x) (hs : a.eval s = y) (v : Value) (w' : World) (hrun : (Builtin.append_ #[t, t] op.type #[x, y]).run Try.prog w = .ok v w')
    (h : K (a.put op.dst v) w') : if Region.wanted op (yielded ops a.tmps) = true then Oper.wp Try.prog op a w K Q else E := by
  have hw : Region.wanted op (yielded ops a.tmps) = true := by simp [Region.wanted, hgd]
  rw [if_pos hw]
  unfold Oper.wp
  simp [execOp, ho, resolve, invoke, builtin, hd, hs, hrun, Result.andThen]
  exact h
theorem run_append_none (W : World) (ty : TypeId) (v : Value) (l1 : List Int) (base : Nat) (hown : W.ownsRow base 3 1 v l1.length (ivals l1)) (a : Option Addr) (cap : Nat) :
    (Builtin.append_ #[33, 33] ty #[v, .slice a 0 cap]).run Try.prog W = .ok v W := by
  have hl : ∀ x : Addr, (loadCells x 0).run Try.prog W = .ok #[] W := fun x => run_loadCells_list (P := Try.prog) W x [] (by simp)
  rcases hown.2 with ⟨rfl, h0⟩ | ⟨g, c, cur, rfl, _, _, h, _⟩
  · cases a with
    | none => simp [Builtin.append_, run_underlying Try.underlying33, Builtin.lenOf, Builtin.firstCells]
    | some x => simp [Builtin.append_, run_underlying Try.underlying33, Builtin.lenOf, Builtin.firstCells, hl]
  · cases a with
    | none => simp [Builtin.append_, run_underlying Try.underlying33, Builtin.lenOf, Builtin.firstCells, h, storeCells]
    | some x => simp [Builtin.append_, run_underlying Try.underlying33, Builtin.lenOf, Builtin.firstCells, h, storeCells, hl]
/-- An append of whatever whole numbers, none among them, onto a row of one's own. -/
theorem append_any (W : World) (ty : TypeId) (base : Nat) (v : Value) (l1 : List Int) (hown : W.ownsRow base 3 1 v l1.length (ivals l1)) (a : Option Addr) (l : List Int) (n cap : Nat) (hn : l.length = n) (hr : IRow W a l)
    (hsz : l1.length + n ≤ 1000000000) (hbase : base ≤ W.heap.size) :
    ∃ v' w', (Builtin.append_ #[33, 33] ty #[v, .slice a n cap]).run Try.prog W = .ok v' w' ∧ w'.ownsRow base 3 1 v' (l1 ++ l).length (ivals (l1 ++ l)) ∧ Below base W w' := by
  by_cases hne : l = []
  · subst hne
    obtain rfl : 0 = n := hn
    exact ⟨v, W, run_append_none W ty v l1 base hown a cap, by rw [List.append_nil]; exact hown, Below.refl _ _⟩
  · subst hn
    obtain ⟨g, cap', w', hrun, ho, hg, _⟩ := run_append_irow W ty base v l1 hown a l cap hr hne hsz hbase
    refine ⟨_, w', hrun, ho, (Below.refl base W).grown hg hbase ?_⟩
    rcases hown.2 with ⟨rfl, _⟩ | ⟨g', c', cur, rfl, hb', _⟩
    · intro k hk; simp [Value.ownBlock] at hk
    · intro k hk; simp [Value.ownBlock] at hk; omega
theorem owns_nil3 (w : World) (base : Nat) : w.ownsRow base 3 1 (.slice none 0 0) ([] : List Int).length (ivals []) := World.ownsRow_nil _ _ 3 1
theorem IRow.cell {w : World} {a : Option Addr} {l : List Int} (h : IRow w a l) (hl : l ≠ []) : ∃ b off, a = some ⟨b, off, none⟩ ∧ b < w.heap.size ∧ ∀ i, i < l.length → w.cell? ⟨b, off + i, none⟩ = some (.int .i64 (l.getD i 0)) := by
  rcases h with h | h
  · exact absurd h hl
  · exact h
/-- One element more behind a row of one's own. -/
theorem app_one (W : World) (ts te ty : TypeId) (by_ : Nat) (z : Value) (hts : Try.prog.underlying ts = some (.slice te)) (hi : (Try.prog.info? te).map (fun i => (i.zero, i.size, i.bytes)) = some (some z, 1, by_)) (hz : z.cells.size = 1) (hby2 : by_ ≤ 100)
    (base : Nat) (v : Value) (n : Nat) (xs : List Value) (hown : W.ownsRow base te 1 v n xs) (y : Nat) (u : Value) (hy : W.heap[y]? = some (.cells #[u] te (0, 0))) (hu : u.oneCell' = true) (hn : n ≤ 1000000) (hbase : base ≤ W.heap.size) :
    ∃ g cap' w', (Builtin.append_ #[ts, ts] ty #[v, .slice (some ⟨y, 0, none⟩) 1 1]).run Try.prog W = .ok (.slice (some ⟨g, 0, none⟩) (n + 1) cap') w' ∧ w'.ownsRow base te 1 (.slice (some ⟨g, 0, none⟩) (n + 1) cap') (n + 1) (xs ++ [u]) ∧ W.grownBy w' v.ownBlock ∧ (v.ownBlock = some g ∨ W.heap.size ≤ g) := by
  obtain ⟨i, hi5, hzz⟩ := Option.map_eq_some_iff.1 hi
  simp only [Prod.mk.injEq] at hzz
  have hmul : (n + 1) * by_ ≤ 1000001 * 100 := Nat.mul_le_mul (by omega) hby2
  obtain ⟨g, cap', w', hrun, h2, h3, h4, _⟩ := run_append_lies (P := Try.prog) W ts ty base te i z 1 by_ hts hi5 hzz.1 hzz.2.1 hzz.2.2 hz (by omega) v n xs hown ⟨y, 0, none⟩ 1 1 [u] rfl (by
    intro j x hx
    have hj : j = 0 := by
      have := (List.getElem?_eq_some_iff.1 hx).1
      simp at this
      exact this
    subst hj
    simp at hx
    subst hx
    rw [addr_add0, cell_of_row W y 0 _ te (0, 0) hy]
    rfl) (by intro x hx; simp at hx; subst hx; exact hu) (by decide) (by unfold maxLen; omega) (by omega) hbase _ rfl
  exact ⟨g, cap', w', hrun, h2, h3, h4.imp id fun e => by omega⟩
theorem wpList_app_one {ops : Array Oper} {rest : List Oper} {o : Oper} {act : Act} {Q : Exit → Act → World → Prop} (W : World) (ts te : TypeId) (hgd : o.guard = none) (s x : Operand)
    (ho : o.op = .call { callee := .builtin .append, args := #[s, x], argTypes := #[ts, ts] })
    (by_ : Nat) (z : Value) (hts : Try.prog.underlying ts = some (.slice te)) (hi : (Try.prog.info? te).map (fun i => (i.zero, i.size, i.bytes)) = some (some z, 1, by_)) (hz : z.cells.size = 1) (hby2 : by_ ≤ 100)
    (base : Nat) (v : Value) (n : Nat) (xs : List Value) (hs : act.eval s = v) (hown : W.ownsRow base te 1 v n xs) (y : Nat) (u : Value) (hx : act.eval x = .slice (some ⟨y, 0, none⟩) 1 1) (hy : W.heap[y]? = some (.cells #[u] te (0, 0))) (hu : u.oneCell' = true) (hn : n ≤ 1000000) (hbase : base ≤ W.heap.size)
    (h : ∀ g cap' w', w'.ownsRow base te 1 (.slice (some ⟨g, 0, none⟩) (n + 1) cap') (n + 1) (xs ++ [u]) → W.grownBy w' v.ownBlock → (v.ownBlock = some g ∨ W.heap.size ≤ g) → wpList Try.prog ops Q rest (act.put o.dst (.slice (some ⟨g, 0, none⟩) (n + 1) cap')) w') : wpList Try.prog ops Q (o :: rest) act W :=
  wpList_plain hgd fun _ hK => by
    obtain ⟨g, cap', w', hrun, h2, h3, h4⟩ := app_one W ts te o.type by_ z hts hi hz hby2 base v n xs hown y u hy hu hn hbase
    unfold Oper.wp execOp
    simp only [ho, resolve, invoke, builtin, Sem.run_bind, Sem.run_pure, Result.andThen_ok, List.map_toArray, List.map_cons, List.map_nil, hs, hx, hrun]
    exact hK _ _ (h g cap' w' h2 h3 h4)
theorem info40s : (Try.prog.info? 40).map (fun i => (i.zero, i.size, i.bytes)) = some (some (.slice none 0 0), 1, 24) := by kernel_rfl

/-! ### What stays -/
structure But (S : Nat → Prop) (w w' : World) : Prop where
  os : w'.os = w.os
  tape : w'.tape = w.tape
  output : w'.output = w.output
  size : w.heap.size ≤ w'.heap.size
  block : ∀ k, k < w.heap.size → ¬ S k → w'.heap[k]? = w.heap[k]?
theorem But.refl (S : Nat → Prop) (w : World) : But S w w := ⟨rfl, rfl, rfl, Nat.le_refl _, fun _ _ _ => rfl⟩
theorem But.trans {S T : Nat → Prop} {w w1 w2 : World} (h : But S w w1) (h1 : But T w1 w2) (ht : ∀ k, T k → S k ∨ w.heap.size ≤ k) : But S w w2 where
  os := h1.os.trans h.os
  tape := h1.tape.trans h.tape
  output := h1.output.trans h.output
  size := Nat.le_trans h.size h1.size
  block := fun k hk hs => by
    refine (h1.block k (Nat.lt_of_lt_of_le hk h.size) fun e => ?_).trans (h.block k hk hs)
    rcases ht k e with e | e
    · exact hs e
    · omega
theorem But.mono {S T : Nat → Prop} {w w1 : World} (h : But S w w1) (ht : ∀ k, S k → T k ∨ w.heap.size ≤ k) : But T w w1 :=
  ⟨h.os, h.tape, h.output, h.size, fun k hk hs => h.block k hk fun e => by rcases ht k e with e | e; exact hs e; omega⟩
theorem Only.but {q : Nat} {o : Option Nat} {w w' : World} (h : Only q o w w') : But (fun k => k = q ∨ some k = o) w w' :=
  ⟨h.os, h.tape, h.output, h.size, fun k hk hs => h.block k hk (fun e => hs (.inl e)) fun e => hs (.inr e)⟩
theorem below_but {w w' : World} (S : Nat → Prop) (h : Below w.heap.size w w') : But S w w' := ⟨h.os, h.tape, h.output, h.size, fun k hk _ => h.block k hk⟩
theorem But.below {S : Nat → Prop} {w w' : World} {base : Nat} (h : But S w w') (hs : ∀ k, S k → base ≤ k) (hb : base ≤ w.heap.size) : Below base w w' :=
  ⟨h.os, h.tape, h.output, h.size, fun k hk => h.block k (by omega) fun e => by have := hs k e; omega⟩
theorem below_tr {b : Nat} {w w1 w2 : World} (h : Below b w w1) (h1 : Below w1.heap.size w1 w2) (hb : b ≤ w1.heap.size) : Below b w w2 := h.trans (h1.mono hb)

/-! ### A log in memory -/
def iv (l : List Nat) : List Int := l.map fun n : Nat => (n : Int)
theorem iv_len (l : List Nat) : (iv l).length = l.length := by simp [iv]
theorem iv_get (l : List Nat) (i : Nat) : (iv l).getD i 0 = (l.getD i 0 : Nat) := by
  simp only [iv, List.getD_eq_getElem?_getD, List.getElem?_map]
  cases l[i]? <;> rfl
theorem iv_app (a b : List Nat) : iv (a ++ b) = iv a ++ iv b := by simp [iv]
/-- A row of whole numbers in a block that is nothing else. -/
def SRow (w : World) (a : Option Addr) (l : List Int) : Prop :=
  l = [] ∨ ∃ b cur, a = some ⟨b, 0, none⟩ ∧ w.heap[b]? = some (.cells cur 3 (0, 0)) ∧ ∀ i, i < l.length → cur[i]? = some (.int .i64 (l.getD i 0))
theorem SRow.irow {w : World} {a : Option Addr} {l : List Int} (h : SRow w a l) : IRow w a l := by
  rcases h with h | ⟨b, cur, h1, h2, h3⟩
  · exact .inl h
  · exact .inr ⟨b, 0, h1, (Array.getElem?_eq_some_iff.1 h2).1, fun i hi => by rw [Nat.zero_add, cell_of_row w b i cur 3 (0, 0) h2]; exact h3 i hi⟩
theorem srow_of_owns {w : World} {base : Nat} {v : Value} {l : List Int} (h : w.ownsRow base 3 1 v l.length (ivals l)) :
    ∃ a cap, v = .slice a l.length cap ∧ SRow w a l ∧ l.length ≤ cap ∧ cap ≤ maxLen ∧ (a = none → cap = 0) := by
  rcases h.2 with ⟨rfl, h0⟩ | ⟨g, cap, cur, rfl, hb, hg, hc, hm, hs, ht⟩
  · obtain rfl : l = [] := List.length_eq_zero_iff.1 h0
    exact ⟨none, 0, rfl, .inl rfl, Nat.le_refl _, Nat.zero_le _, fun _ => rfl⟩
  · refine ⟨_, cap, rfl, .inr ⟨g, cur, rfl, hg, fun i hi => ?_⟩, hc, hm, fun e => by simp at e⟩
    have := ivals_get l i hi
    rw [← ht, Nat.mul_one, List.getElem?_take, if_pos hi] at this
    simpa using this
/-- No block of S is a row of whole numbers. -/
def NoInts (S : Nat → Prop) (w : World) : Prop := ∀ k, S k → ∀ cur, w.heap[k]? ≠ some (.cells cur 3 (0, 0))
theorem SRow.but {S : Nat → Prop} {w w' : World} {a : Option Addr} {l : List Int} (h : SRow w a l) (hb : But S w w') (hn : NoInts S w) : SRow w' a l := by
  rcases h with h | ⟨b, cur, h1, h2, h3⟩
  · exact .inl h
  · exact .inr ⟨b, cur, h1, (hb.block b (Array.getElem?_eq_some_iff.1 h2).1 fun e => hn b e cur h2).trans h2, h3⟩
theorem SRow.below {w w' : World} {a : Option Addr} {l : List Int} (h : SRow w a l) (hb : Below w.heap.size w w') : SRow w' a l :=
  h.but (below_but (fun _ => False) hb) fun _ e => e.elim
def num (segs : List Nat) (i : Nat) : Nat := 8 + 8 * segs.getD (i / 8) 0 + i % 8
def lgCells (q : Nat) (a : Option Addr) (k c n last boot : Nat) : Array Value := #[.pointer (some ⟨q, 0, none⟩), .slice a k c, .int .i64 (n : Int), .int .u32 (last : Int), .int .i64 (boot : Int)]
structure LogAt (w : World) (g q : Nat) (segs : List Nat) (n last boot : Nat) : Prop where
  blk : ∃ a c, w.heap[g]? = some (.cells (lgCells q a segs.length c n last boot) 71 (0, 0)) ∧ SRow w a (iv segs) ∧ segs.length ≤ c ∧ c ≤ maxLen ∧ (a = none → c = 0)
  lt : ∀ s ∈ segs, s < 96
  len : segs.length ≤ 96
  last : last < 4294967296
  boot : boot < 4294967296
  nle : n ≤ 768
theorem LogAt.but {S : Nat → Prop} {w w' : World} {g q : Nat} {segs : List Nat} {n last boot : Nat} (h : LogAt w g q segs n last boot) (hb : But S w w') (hn : NoInts S w) (hg : ¬ S g) : LogAt w' g q segs n last boot := by
  obtain ⟨⟨a, c, h1, h2, h3⟩, h4, h5, h6, h7, h8⟩ := h
  exact ⟨⟨a, c, (hb.block g (Array.getElem?_eq_some_iff.1 h1).1 hg).trans h1, h2.but hb hn, h3⟩, h4, h5, h6, h7, h8⟩
theorem LogAt.below {w w' : World} {g q : Nat} {segs : List Nat} {n last boot : Nat} (h : LogAt w g q segs n last boot) (hb : Below w.heap.size w w') : LogAt w' g q segs n last boot :=
  h.but (below_but (fun _ => False) hb) (fun _ e => e.elim) fun e => e.elim
theorem LogAt.glt {w : World} {g q : Nat} {segs : List Nat} {n last boot : Nat} (h : LogAt w g q segs n last boot) : g < w.heap.size := by
  obtain ⟨a, c, h1, _⟩ := h.blk
  exact (Array.getElem?_eq_some_iff.1 h1).1
/-- Blocks by what they are. -/
def Tag (w : World) (k : Nat) (t : TypeId) : Prop := ∃ cur, w.heap[k]? = some (.cells cur t (0, 0))
theorem Tag.ne {w : World} {j k : Nat} {s t : TypeId} (h : Tag w j s) (h2 : Tag w k t) (hne : s ≠ t) : j ≠ k := by
  rintro rfl
  obtain ⟨c, h⟩ := h
  obtain ⟨d, h2⟩ := h2
  rw [h] at h2
  simp at h2
  exact hne h2.2
theorem DiskAt.tag {w : World} {q p : Nat} {d : Dk} (h : DiskAt w q p d) : Tag w q 66 ∧ Tag w p 86 := by
  obtain ⟨z, h1, h2, _⟩ := h
  exact ⟨⟨_, h1⟩, ⟨_, h2⟩⟩
theorem Sp.SpAt.tag {w : World} {q k : Nat} {t : List Bool} (h : Sp.SpAt w q k t) : Tag w q 69 := ⟨_, h.blk⟩
theorem LogAt.tag {w : World} {g q : Nat} {segs : List Nat} {n last boot : Nat} (h : LogAt w g q segs n last boot) : Tag w g 71 := by
  obtain ⟨a, c, h1, _⟩ := h.blk
  exact ⟨_, h1⟩
theorem noInts_of {S : Nat → Prop} {w : World} (h : ∀ k, S k → ∃ t, Tag w k t ∧ t ≠ 3) : NoInts S w := fun k e cur hc => by
  obtain ⟨t, ⟨c, h1⟩, h2⟩ := h k e
  rw [hc] at h1
  simp at h1
  exact h2 h1.2.symm
theorem DiskAt.but {S : Nat → Prop} {w w' : World} {q p : Nat} {d : Dk} (h : DiskAt w q p d) (hb : But S w w') (hq : ¬ S q) (hp : ¬ S p) : DiskAt w' q p d :=
  h.kept (hb.block q h.lt.1 hq) (hb.block p h.lt.2 hp)
theorem Sp.SpAt.but {S : Nat → Prop} {w w' : World} {q k : Nat} {t : List Bool} (h : Sp.SpAt w q k t) (hb : But S w w') (hq : ¬ S q) : Sp.SpAt w' q k t := ⟨(hb.block q h.lt hq).trans h.blk, h.len, h.le⟩
theorem Row.but {S : Nat → Prop} {w w' : World} {a : Option Addr} {l : List Nat} (h : Row w a l) (hb : But S w w') (hs : ∀ v, a = some v → ¬ S v.block) : Row w' a l := by
  refine ⟨h.1, ?_⟩
  rcases h.2 with h2 | ⟨b, off, ha, hlt, hc⟩
  · exact .inl h2
  · refine .inr ⟨b, off, ha, Nat.lt_of_lt_of_le hlt hb.size, fun i hi => ?_⟩
    have e := hb.block b hlt (hs _ ha)
    rw [← hc i hi]
    simp only [World.cell?, e]
theorem below_of_drew {b : Nat} {w w' : World} (h : Below b w.drew w') : Below b w w' := ⟨h.os, h.tape, h.output, h.size, h.block⟩
theorem below_of_drewN {b n : Nat} {w w' : World} (h : Below b (w.drewN n) w') : Below b w w' := ⟨h.os, h.tape, h.output, h.size, h.block⟩
theorem but_of_drew {S : Nat → Prop} {w w' : World} (h : But S w.drew w') : But S w w' := ⟨h.os, h.tape, h.output, h.size, h.block⟩
end Go.Proofs.Yteohjfhflodklaa
