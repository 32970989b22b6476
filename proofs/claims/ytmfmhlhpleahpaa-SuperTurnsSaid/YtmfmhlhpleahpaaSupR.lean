/- What the document's own Bytes leans on: rows of the call's own, a row that is marked. No condition. -/
import Derived.Test.YtmfmhlhpleahpaaSupQ
import Derived.Lib.SlBytesConst
import Derived.Laws.AppendOwn
namespace Go.Proofs.Ytmfmhlhpleahpaa
open Go.RowKit Pen
open Crc (four nx)
set_option maxRecDepth 4000
/-- Blocks of any other kind than rows of bytes stay. -/
def Keep5 (w w' : World) : Prop := ∀ (k : Nat) (cs : Array Value) (t : TypeId) (fr : Nat × Nat), w.heap[k]? = some (.cells cs t fr) → t ≠ 5 → w'.heap[k]? = some (.cells cs t fr)
theorem keep5_below {w w' : World} (hb : Below w.heap.size w w') : Keep5 w w' := fun k _ _ _ hk _ => (hb.block k (Array.getElem?_eq_some_iff.1 hk).1).trans hk
theorem Keep5.trans {w w1 w2 : World} (h : Keep5 w w1) (h1 : Keep5 w1 w2) : Keep5 w w2 := fun k cs t fr hk ht => h1 k cs t fr (h k cs t fr hk ht) ht
/-- A row of the call's own: from base on. -/
def Mine (base : Nat) (w : World) (g m cap : Nat) (L : List Nat) : Prop := L.length = m ∧ (∀ x ∈ L, x < 256) ∧ w.ownsRow base 5 1 (.slice (some ⟨g, 0, none⟩) m cap) m (vals L)
theorem Mine.below {base : Nat} {w w' : World} {g m cap : Nat} {L : List Nat} (h : Mine base w g m cap L) (hb : Below w.heap.size w w') : Mine base w' g m cap L := by
  refine ⟨h.1, h.2.1, h.2.2.1, ?_⟩
  rcases h.2.2.2 with h3 | ⟨g', cap', cur, e, hb', hg, hc⟩
  · exact .inl h3
  · exact .inr ⟨g', cap', cur, e, hb', (hb.block g' (Array.getElem?_eq_some_iff.1 hg).1).trans hg, hc⟩
theorem Mine.low {base b2 : Nat} {w : World} {g m cap : Nat} {L : List Nat} (h : Mine base w g m cap L) (hb : b2 ≤ base) : Mine b2 w g m cap L := ⟨h.1, h.2.1, owns_low h.2.2 hb⟩
theorem Mine.row {base : Nat} {w : World} {g m cap : Nat} {L : List Nat} (h : Mine base w g m cap L) : m ≤ cap ∧ Row w (some ⟨g, 0, none⟩) L := row_of_owns' h.1 h.2.2 h.2.1
theorem run_append_nothing (W : World) (ty : TypeId) (g m c : Nat) (h : m ≤ c) (a : Option Addr) (cap : Nat) :
    (Builtin.append_ #[35, 35] ty #[.slice (some ⟨g, 0, none⟩) m c, .slice a 0 cap]).run Try.prog W = .ok (.slice (some ⟨g, 0, none⟩) m c) W := by
  have hl : ∀ x : Addr, (loadCells x 0).run Try.prog W = .ok #[] W := fun x => run_loadCells_list (P := Try.prog) W x [] (by simp)
  cases a with
  | none => simp [Builtin.append_, run_underlying Try.underlying35, Builtin.lenOf, Builtin.firstCells, h, storeCells]
  | some x => simp [Builtin.append_, run_underlying Try.underlying35, Builtin.lenOf, Builtin.firstCells, h, storeCells, hl]
/-- An append of bytes, none among them, to a row of the call's own. -/
theorem Mine.app {base : Nat} {w : World} {g m cap : Nat} {L : List Nat} (h : Mine base w g m cap L) (ty : TypeId) (a : Option Addr) (l : List Nat) (n c : Nat) (hn : l.length = n) (hr : Row w a l) (k : Nat) (hk : m + n = k) (hsz : k ≤ 1000000000) (hbase : base ≤ w.heap.size) :
    ∃ g' cap' w', (Builtin.append_ #[35, 35] ty #[.slice (some ⟨g, 0, none⟩) m cap, .slice a n c]).run Try.prog w = .ok (.slice (some ⟨g', 0, none⟩) k cap') w' ∧ Mine base w' g' k cap' (L ++ l) ∧ Below base w w' ∧ Keep5 w w' := by
  subst hk
  by_cases hne : l = []
  · subst hne
    obtain rfl : 0 = n := hn
    exact ⟨g, cap, w, run_append_nothing w ty g m cap h.row.1 a c, by rw [List.append_nil]; exact h, Below.refl _ _, fun k cs t fr h _ => h⟩
  obtain ⟨hm, hlt, ho⟩ := h
  subst hm
  subst hn
  obtain ⟨g', cap', w', hrun, h2, h3, _⟩ := run_append_row w ty base _ L ho a l c hr hne hsz hbase
  rw [List.length_append] at hrun h2
  refine ⟨g', cap', w', hrun, ⟨List.length_append, fun x hx => ?_, h2⟩, (Below.refl base w).grown h3 hbase ?_, ?_⟩
  · rcases List.mem_append.1 hx with hx | hx
    · exact hlt x hx
    · exact hr.1 x hx
  · rcases ho.2 with ⟨e, _⟩ | ⟨g9, c9, cur, e, hb', _⟩
    · simp at e
    · intro k hk
      rw [e] at hk
      simp [Value.ownBlock] at hk
      omega
  · intro k cs t fr hk ht
    refine (h3.block k (Array.getElem?_eq_some_iff.1 hk).1 ?_).trans hk
    rcases ho.2 with ⟨e, _⟩ | ⟨g9, c9, cur, e, hb', hg9, _⟩
    · simp at e
    · rw [e]
      simp only [Value.ownBlock]
      intro e2
      simp at e2
      subst e2
      rw [hk] at hg9
      simp at hg9
      exact ht hg9.2.1
/-- An append of bytes, some of them, to nil. -/
theorem mine_nil {base : Nat} {w : World} (ty : TypeId) (a : Option Addr) (l : List Nat) (n c : Nat) (hn : l.length = n) (hr : Row w a l) (hne : l ≠ []) (hsz : n ≤ 1000000000) (hbase : base ≤ w.heap.size) :
    ∃ g' cap' w', (Builtin.append_ #[35, 35] ty #[.slice none 0 0, .slice a n c]).run Try.prog w = .ok (.slice (some ⟨g', 0, none⟩) n cap') w' ∧ Mine base w' g' n cap' l ∧ Below base w w' ∧ Keep5 w w' := by
  subst hn
  obtain ⟨g', cap', w', hrun, h2, h3, _⟩ := run_append_row w ty base (.slice none 0 0) [] (World.ownsRow_nil _ _ 5 1) a l c hr hne (by simp; omega) hbase
  rw [List.nil_append] at hrun h2
  exact ⟨g', cap', w', hrun, ⟨rfl, hr.1, h2⟩, (Below.refl base w).grown h3 hbase (fun k hk => by simp [Value.ownBlock] at hk), fun k cs t fr hk _ => (h3.block k (Array.getElem?_eq_some_iff.1 hk).1 (by simp [Value.ownBlock])).trans hk⟩
theorem mine_four (w : World) (c : Nat) (hc : c < 4294967296) : Mine w.heap.size (w.alloc (.cells (row8 (four c)) 5)) w.heap.size 4 4 (four c) :=
  ⟨rfl, Crc.four_lt hc, owns_row8 (heap_alloc_new _ _) (Nat.le_refl _) rfl (by decide)⟩
theorem step_appl {ops : Array Oper} {rest : List Oper} {op : Oper} {a : Act} {w : World} {Q : Exit → Act → World → Prop} (t : TypeId) (hgd : op.guard = none) (d s : Operand)
    (ho : op.op = .call { callee := .builtin .append, args := #[d, s], argTypes := #[t, t] }) (x y : Value) (hd : a.eval d = x) (hs : a.eval s = y) (v : Value) (w' : World) (hrun : (Builtin.append_ #[t, t] op.type #[x, y]).run Try.prog w = .ok v w')
    (h : wpList Try.prog ops Q rest (a.put op.dst v) w') : wpList Try.prog ops Q (op :: rest) a w :=
  wpList_plain hgd fun _ hK => by
    unfold Oper.wp execOp
    simp only [ho, resolve, invoke, builtin, Sem.run_bind, Sem.run_pure, Result.andThen_ok, List.map_toArray, List.map_cons, List.map_nil, hd, hs, hrun]
    exact hK _ _ h
/-- The first append onto a row that is marked, and full: a row of the call's own. -/
theorem mine_mark {w : World} (ty : TypeId) (b : Nat) (L : List Nat) (hL : Row w (some ⟨b, 0, none⟩) L) (hL0 : L ≠ []) (m : Nat) (hm : L.length = m) (a : Option Addr) (l : List Nat) (n c : Nat) (hn : l.length = n) (hr : Row w a l) (hne : l ≠ []) (k : Nat) (hk : m + n = k) (hsz : k ≤ 1000000000) :
    ∃ cap' w', (Builtin.append_ #[35, 35] ty #[.slice (some ⟨b, 0, none⟩) m m, .slice a n c]).run Try.prog w = .ok (.slice (some ⟨w.heap.size, 0, none⟩) k cap') w' ∧ Mine w.heap.size w' w.heap.size k cap' (L ++ l) ∧ Below w.heap.size w w' := by
  obtain ⟨i5, hi5, hz5, hs5, hy5⟩ := info5'
  subst hm
  subst hn
  subst hk
  rcases hL.2 with h | ⟨b0, o0, hb0, _, hc0⟩
  · exact absurd h hL0
  rcases hr.2 with h | ⟨b1, o1, rfl, _, hc1⟩
  · exact absurd h hne
  simp at hb0
  obtain ⟨rfl, rfl⟩ := hb0
  have hpos : 0 < l.length := List.length_pos_iff.2 hne
  have hlen : (vals L ++ vals l).length = L.length + l.length := by rw [List.length_append, vals_len, vals_len]
  have hr := run_append_grow (P := Try.prog) w 35 ty 5 i5 (.int .u8 0) Try.underlying35 hi5 hz5 ⟨b, 0, none⟩ L.length L.length (vals L) (by rw [vals_len, hs5, Nat.mul_one]) (news_of hc0) ⟨b1, o1, none⟩ l.length c (vals l) (by rw [vals_len, hs5, Nat.mul_one]) (news_of hc1) (by omega) (by omega) (by rw [hy5]; exact growslice_fits (by omega) (by omega))
  have hge := grownCap_ge w (L.length + l.length) L.length 5
  have hcm : grownCap w (L.length + l.length) L.length 5 ≤ maxLen := grownCap_le_maxLen w _ L.length 5 (by unfold maxLen; omega)
  refine ⟨_, _, hr, ⟨by rw [List.length_append], fun x hx => ?_, by rw [vals_app]; rw [hlen, Nat.mul_one], .inr ⟨w.heap.size, _, _, rfl, Nat.le_refl _, heap_alloc_new w.drew _, hge, hcm, ?_, ?_⟩⟩, ?_⟩
  · rcases List.mem_append.1 hx with hx | hx
    · exact hL.1 x hx
    · exact ‹Row w _ l›.1 x hx
  · simp only [Array.size_append, List.size_toArray, size_zeroCells, vals_len, Value.cells]
    simp
    omega
  · rw [vals_app, Array.toList_append, Array.toList_append]
    simp only [Nat.mul_one]
    rw [← hlen]
    exact List.take_left
  · exact ⟨rfl, rfl, rfl, by simp, fun k hk => heap_alloc_old w.drew _ hk⟩
end Go.Proofs.Ytmfmhlhpleahpaa
