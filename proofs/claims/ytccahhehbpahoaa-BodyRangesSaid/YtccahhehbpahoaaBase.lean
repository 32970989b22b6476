/- What the pieces' store leans on: slices, rows of the call's own, bytes.Equal, slices.Clone, rows of numbers. Condition: at most nine hundred million bytes. -/
import Derived.Test.YtccahhehbpahoaaNext
import Derived.Laws.MakeOwn
import Derived.Deep.RegionHeld
import Derived.Deep.DrawnRows
import Derived.Deep.QuietTactic
import Derived.BigQuiet
import Derived.WalkMore
import Derived.Deep.Matrix
namespace Go.Proofs.Ytccahhehbpahoaa
open Go.ChangeShapes Go.WideShapes Go.ChangeAt Go.RowKit
set_option maxRecDepth 4000
theorem hid {p : Prop} (h : p) : Hid p := h
theorem own : ownKnob Try.prog.godebug = none := by kernel_rfl
theorem laidOut : laidOutB Try.prog = true := by kernel_rfl
/-- What the walk is told of a slice of integers that came in. -/
def IsRow (k : IntKind) (w : World) (a : Option Addr) (len cap : Nat) (zs : List Int) : Prop :=
  (a = none ∧ len = 0 ∧ cap = 0 ∧ zs = []) ∨
  ∃ x, a = some x ∧ len ≤ cap ∧ cap ≤ maxLen ∧ zs.length = cap ∧ (∀ i, i < zs.length → w.cell? (x.add i) = some (.int k (zs.getD i 0))) ∧ ∀ n ∈ zs, (Lit.int k n).wf = true
theorem nat_u8 {z : Int} (h : (Lit.int .u8 z).wf = true) : 0 ≤ z ∧ z < 256 := by have := bounds_u8 h; omega
theorem bytes_of {w : World} {a : Option Addr} {len cap : Nat} {zs : List Int} (h : IsRow .u8 w a len cap zs) : ∃ l : List Nat, l.length = len ∧ Row w a l ∧ len ≤ cap ∧ cap ≤ maxLen := by
  rcases h with ⟨rfl, rfl, rfl, rfl⟩ | ⟨x, rfl, hl, hm, hz, hcell, hwz⟩
  · exact ⟨[], rfl, row_nil w _, Nat.le_refl _, Nat.zero_le _⟩
  · refine ⟨(zs.take len).map Int.toNat, by simp; omega, ⟨?_, ?_⟩, hl, hm⟩
    · intro n hn
      obtain ⟨z, hz1, rfl⟩ := List.mem_map.1 hn
      have := nat_u8 (hwz z (List.mem_of_mem_take hz1))
      omega
    · by_cases h0 : len = 0
      · subst h0; exact .inl (by simp)
      · obtain ⟨b, off, spot⟩ := x
        have hc := hcell 0 (by omega)
        have hspot : spot = none := by simpa [Addr.add] using World.cell?_spot hc
        subst hspot
        refine .inr ⟨b, off, rfl, ?_, fun i hi => ?_⟩
        · have := block_lt_of_cell hc
          simpa [Addr.add] using this
        · have hi1 : i < len := by simp at hi; omega
          have hadd : (⟨b, off, none⟩ : Addr).add i = ⟨b, off + i, none⟩ := by unfold Addr.add; split <;> simp_all
          have h1 := hcell i (by omega)
          rw [hadd] at h1
          rw [h1]
          have hzi : i < zs.length := by omega
          have hb := nat_u8 (hwz _ (List.getElem_mem hzi))
          simp [List.getElem?_eq_getElem hzi, hi1, Int.toNat_of_nonneg hb.1]
def fromA (a : Option Addr) (k cap : Nat) : Option Addr := if cap = k then a else a.map (·.add k)
theorem row_take {w : World} {a : Option Addr} {l : List Nat} (h : Row w a l) (k : Nat) : Row w a (l.take k) := by
  refine ⟨fun x hx => h.1 x (List.mem_of_mem_take hx), ?_⟩
  rcases h.2 with h2 | ⟨b, off, ha, hlt, hc⟩
  · exact .inl (by rw [h2]; simp)
  · refine .inr ⟨b, off, ha, hlt, fun i hi => ?_⟩
    have hi' : i < l.length ∧ i < k := by simp at hi; omega
    rw [hc i hi'.1]
    simp [hi'.2]
theorem row_drop {w : World} {a : Option Addr} {l : List Nat} (h : Row w a l) (k cap : Nat) (hcap : l.length ≤ cap) : Row w (fromA a k cap) (l.drop k) := by
  refine ⟨fun x hx => h.1 x (List.mem_of_mem_drop hx), ?_⟩
  rcases h.2 with h2 | ⟨b, off, ha, hlt, hc⟩
  · exact .inl (by rw [h2]; simp)
  · by_cases hk : cap = k
    · exact .inl (List.drop_of_length_le (by omega))
    · refine .inr ⟨b, off + k, ?_, hlt, fun i hi => ?_⟩
      · subst ha
        simp only [fromA, if_neg hk, Option.map_some, Addr.add]
        split
        · next h => rw [h]; rfl
        · rfl
      · have hi' : k + i < l.length := by simp at hi; omega
        rw [Nat.add_assoc, hc (k + i) hi']
        simp
/-- What a row of bytes says as a text, in whatever later world. -/
theorem str_at {w' : World} {g n cap : Nat} {l : List Nat} (hr : Row w' (some ⟨g, 0, none⟩) l) (hn : l.length = n) : ∀ W, Below w'.heap.size w' W → (convert 54 9 (.slice (some ⟨g, 0, none⟩) n cap)).run Try.prog W = .ok (.string (strOf l)) W :=
  fun W hb => str_any W _ l n cap hn (hr.below hb)
theorem elem35 : Try.prog.elem 54 = 5 := by kernel_rfl
theorem size5 (w : World) : (sizeOf 5).run Try.prog w = .ok 1 w := by kernel_rfl
theorem addr_add0 (a : Addr) : a.add 0 = a := by unfold Addr.add; simp
theorem slice_to (w : World) (a : Option Addr) (n cap k : Nat) (hk : k ≤ cap) : (Instr.slice 54 (.slice a n cap) none (some (.int .i64 (k : Int))) none).run Try.prog w = .ok (.slice a k cap) w := by
  rw [run_slice_h (ht := (by rw [elem35]; exact Try.underlying54 : Try.prog.underlying 54 = some (.slice (Try.prog.elem 54)))) (kh := .i64) (h := (k : Int)) (h0 := by omega) (h2 := by omega), elem35, size5]
  simp [sliced, Result.andThen, addr_add0]
theorem slice_from (w : World) (a : Option Addr) (n cap k : Nat) (hk : k ≤ n) : (Instr.slice 54 (.slice a n cap) (some (.int .i64 (k : Int))) none none).run Try.prog w = .ok (.slice (fromA a k cap) (n - k) (cap - k)) w := by
  rw [run_slice_l (ht := (by rw [elem35]; exact Try.underlying54 : Try.prog.underlying 54 = some (.slice (Try.prog.elem 54)))) (kl := .i64) (l := (k : Int)) (h0 := by omega) (h1 := by omega), elem35, size5]
  simp [sliced, Result.andThen, fromA]
theorem owns_row8 {w : World} {base g n : Nat} {l : List Nat} (h : w.heap[g]? = some (.cells (row8 l) 5 (0, 0))) (hg : base ≤ g) (hn : l.length = n) (hm : n ≤ 1000000) : w.ownsRow base 5 1 (.slice (some ⟨g, 0, none⟩) n n) n (vals l) := by
  subst hn
  exact ⟨by simp [vals_len], .inr ⟨g, l.length, row8 l, rfl, hg, h, Nat.le_refl _, Nat.le_trans hm (by decide), by simp [row8, vals_len], by rw [Nat.mul_one, row8, ← vals_len l, List.take_length]⟩⟩
theorem owns_low {w : World} {b b' n : Nat} {v : Value} {xs : List Value} (h : w.ownsRow b 5 1 v n xs) (hb : b' ≤ b) : w.ownsRow b' 5 1 v n xs := by
  refine ⟨h.1, ?_⟩
  rcases h.2 with h | ⟨g, cap, cur, h1, h2, h3⟩
  · exact .inl h
  · exact .inr ⟨g, cap, cur, h1, Nat.le_trans hb h2, h3⟩
theorem row_of_owns' {w : World} {base g n cap : Nat} {l : List Nat} (hn : l.length = n) (h : w.ownsRow base 5 1 (.slice (some ⟨g, 0, none⟩) n cap) n (vals l)) (hl : ∀ x ∈ l, x < 256) : n ≤ cap ∧ Row w (some ⟨g, 0, none⟩) l := by
  subst hn
  obtain ⟨a, c, e, h1, _, h3⟩ := row_of_owns h hl
  simp at e
  obtain ⟨rfl, rfl⟩ := e
  exact ⟨h1, h3⟩
theorem slice_mid (w : World) (a : Option Addr) (n cap k h : Nat) (hk : k ≤ h) (hh : h ≤ cap) : (Instr.slice 54 (.slice a n cap) (some (.int .i64 (k : Int))) (some (.int .i64 (h : Int))) none).run Try.prog w = .ok (.slice (fromA a k cap) (h - k) (cap - k)) w := by
  rw [run_slice_lh (ht := (by rw [elem35]; exact Try.underlying54 : Try.prog.underlying 54 = some (.slice (Try.prog.elem 54)))) (kl := .i64) (kh := .i64) (l := (k : Int)) (h := (h : Int)) (h0 := by omega) (h1 := by omega) (h2 := by omega), elem35, size5]
  simp [sliced, Result.andThen, fromA]
  try omega
theorem strs_same (a b : List Nat) (ha : ∀ x ∈ a, x < 256) (hb : ∀ x ∈ b, x < 256) : ((strOf a).toList == (strOf b).toList) = decide (a = b) := by
  rw [ByteArray.toList_eq, ByteArray.toList_eq]
  by_cases h : a = b
  · subst h; simp
  · have h1 : strOf a ≠ strOf b := fun e => h ((strOf_inj ha hb).1 e)
    have h2 : (strOf a).data.toList ≠ (strOf b).data.toList := by
      intro e
      apply h1
      have : (strOf a).data = (strOf b).data := by simpa using e
      cases ha' : strOf a; cases hb' : strOf b
      simp_all
    simp [h]
    exact fun e => h2 (by rw [e])
theorem equal_any {w : World} (a b : Option Addr) (l m : List Nat) (n k c d : Nat) (hl : l.length = n) (hm : m.length = k) (hr : Row w a l) (hs : Row w b m) :
    Calls Try.prog 48 #[.slice a n c, .slice b k d] w fun e w' => e = .returned (.bool (decide (l = m))) ∧ w' = w := by
  have h1 := str_any w a l n c hl hr
  have h2 := str_any w b m k d hm hs
  have h3 := strs_same l m hr.1 hs.1
  generalize strOf l = S at *
  generalize strOf m = T at *
  generalize decide (l = m) = z at *
  clear hr hs
  go_enter Try.func48, Try.ntmps48
  go_wp2
  go_ret
  exact ⟨rfl, rfl⟩
theorem eq_nil_some (w : World) (ad : Addr) (n cap : Nat) : (binOp .eql 54 (.slice (some ad) n cap) (.slice none 0 0)).run Try.prog w = .ok (.bool false) w := by kernel_rfl
theorem eq_nil_none (w : World) : (binOp .eql 54 (.slice none 0 0) (.slice none 0 0)).run Try.prog w = .ok (.bool true) w := by kernel_rfl
theorem owns_empty (w : World) : (w.alloc (.cells #[] 5)).ownsRow w.heap.size 5 1 (.slice (some ⟨w.heap.size, 0, none⟩) 0 0) 0 (vals []) :=
  ⟨rfl, .inr ⟨w.heap.size, 0, #[], rfl, Nat.le_refl _, heap_alloc_new _ _, Nat.le_refl _, Nat.zero_le _, rfl, rfl⟩⟩
theorem wrap_i64 (n : Nat) (h : n < 9223372036854775808) : IntKind.i64.wrap (n : Int) = (n : Int) := by
  unfold IntKind.wrap
  simp only [show IntKind.i64.bits = 64 from rfl, show IntKind.i64.signed = true from rfl]
  have e : (n : Int) % 2 ^ 64 = (n : Int) := by omega
  rw [e]
  simp
  omega
theorem wrap_u32 (n : Nat) (h : n < 4294967296) : IntKind.u32.wrap (n : Int) = (n : Int) := by
  unfold IntKind.wrap
  simp only [show IntKind.u32.bits = 32 from rfl, show IntKind.u32.signed = false from rfl]
  simp
  omega
theorem ext_getD {l m : List Nat} (h : l.length = m.length) (e : ∀ j, j < l.length → l.getD j 0 = m.getD j 0) : l = m := by
  apply List.ext_getElem?
  intro j
  by_cases hj : j < l.length
  · have := e j hj
    rw [List.getD_eq_getElem?_getD, List.getD_eq_getElem?_getD, List.getElem?_eq_getElem hj, List.getElem?_eq_getElem (by omega)] at this
    rw [List.getElem?_eq_getElem hj, List.getElem?_eq_getElem (by omega)]
    exact congrArg some this
  · rw [List.getElem?_eq_none (by omega), List.getElem?_eq_none (by omega)]
theorem getD_take (l : List Nat) (a j : Nat) (h : j < a) : (l.take a).getD j 0 = l.getD j 0 := by
  simp only [List.getD_eq_getElem?_getD, List.getElem?_take, if_pos h]
theorem getD_drop (l : List Nat) (a j : Nat) : (l.drop a).getD j 0 = l.getD (a + j) 0 := by
  simp only [List.getD_eq_getElem?_getD, List.getElem?_drop]
/-- A row of the call's own: from base on. -/
def Mine (base : Nat) (w : World) (g m cap : Nat) (L : List Nat) : Prop := L.length = m ∧ (∀ x ∈ L, x < 256) ∧ w.ownsRow base 5 1 (.slice (some ⟨g, 0, none⟩) m cap) m (vals L)
theorem Mine.below {base : Nat} {w w' : World} {g m cap : Nat} {L : List Nat} (h : Mine base w g m cap L) (hb : Below w.heap.size w w') : Mine base w' g m cap L := by
  refine ⟨h.1, h.2.1, h.2.2.1, ?_⟩
  rcases h.2.2.2 with h3 | ⟨g', cap', cur, e, hb', hg, hc⟩
  · exact .inl h3
  · exact .inr ⟨g', cap', cur, e, hb', (hb.block g' (Array.getElem?_eq_some_iff.1 hg).1).trans hg, hc⟩
theorem Mine.low {base b2 : Nat} {w : World} {g m cap : Nat} {L : List Nat} (h : Mine base w g m cap L) (hb : b2 ≤ base) : Mine b2 w g m cap L := ⟨h.1, h.2.1, owns_low h.2.2 hb⟩
theorem Mine.row {base : Nat} {w : World} {g m cap : Nat} {L : List Nat} (h : Mine base w g m cap L) : m ≤ cap ∧ Row w (some ⟨g, 0, none⟩) L := row_of_owns' h.1 h.2.2 h.2.1
theorem run_append_nothing (W : World) (ty : TypeId) (g m c : Nat) (h : m ≤ c) (a : Option Addr) (cap : Nat) :
    (Builtin.append_ #[54, 54] ty #[.slice (some ⟨g, 0, none⟩) m c, .slice a 0 cap]).run Try.prog W = .ok (.slice (some ⟨g, 0, none⟩) m c) W := by
  have hl : ∀ x : Addr, (loadCells x 0).run Try.prog W = .ok #[] W := fun x => run_loadCells_list (P := Try.prog) W x [] (by simp)
  cases a with
  | none => simp [Builtin.append_, run_underlying Try.underlying54, Builtin.lenOf, Builtin.firstCells, h, storeCells]
  | some x => simp [Builtin.append_, run_underlying Try.underlying54, Builtin.lenOf, Builtin.firstCells, h, storeCells, hl]
/-- An append of bytes, none among them, to a row of the call's own. -/
theorem Mine.app {base : Nat} {w : World} {g m cap : Nat} {L : List Nat} (h : Mine base w g m cap L) (ty : TypeId) (a : Option Addr) (l : List Nat) (n c : Nat) (hn : l.length = n) (hr : Row w a l) (k : Nat) (hk : m + n = k) (hsz : k ≤ 1000000000) (hbase : base ≤ w.heap.size) :
    ∃ g' cap' w', (Builtin.append_ #[54, 54] ty #[.slice (some ⟨g, 0, none⟩) m cap, .slice a n c]).run Try.prog w = .ok (.slice (some ⟨g', 0, none⟩) k cap') w' ∧ Mine base w' g' k cap' (L ++ l) ∧ Below base w w' := by
  subst hk
  by_cases hne : l = []
  · subst hne
    obtain rfl : 0 = n := hn
    exact ⟨g, cap, w, run_append_nothing w ty g m cap h.row.1 a c, by rw [List.append_nil]; exact h, Below.refl _ _⟩
  obtain ⟨hm, hlt, ho⟩ := h
  subst hm
  subst hn
  obtain ⟨g', cap', w', hrun, h2, h3, _⟩ := run_append_row w ty base _ L ho a l c hr hne hsz hbase
  rw [List.length_append] at hrun h2
  refine ⟨g', cap', w', hrun, ⟨List.length_append, fun x hx => ?_, h2⟩, (Below.refl base w).grown h3 hbase ?_⟩
  · rcases List.mem_append.1 hx with hx | hx
    · exact hlt x hx
    · exact hr.1 x hx
  · rcases ho.2 with ⟨e, _⟩ | ⟨g9, c9, cur, e, hb', _⟩
    · simp at e
    · intro k hk
      rw [e] at hk
      simp [Value.ownBlock] at hk
      omega
/-- An append of bytes, some of them, to nil. -/
theorem mine_nil {base : Nat} {w : World} (ty : TypeId) (a : Option Addr) (l : List Nat) (n c : Nat) (hn : l.length = n) (hr : Row w a l) (hne : l ≠ []) (hsz : n ≤ 1000000000) (hbase : base ≤ w.heap.size) :
    ∃ g' cap' w', (Builtin.append_ #[54, 54] ty #[.slice none 0 0, .slice a n c]).run Try.prog w = .ok (.slice (some ⟨g', 0, none⟩) n cap') w' ∧ Mine base w' g' n cap' l ∧ Below base w w' := by
  subst hn
  obtain ⟨g', cap', w', hrun, h2, h3, _⟩ := run_append_row w ty base (.slice none 0 0) [] (World.ownsRow_nil _ _ 5 1) a l c hr hne (by simp; omega) hbase
  rw [List.nil_append] at hrun h2
  exact ⟨g', cap', w', hrun, ⟨rfl, hr.1, h2⟩, (Below.refl base w).grown h3 hbase (fun k hk => by simp [Value.ownBlock] at hk)⟩
theorem mine_empty (w : World) : Mine w.heap.size (w.alloc (.cells #[] 5)) w.heap.size 0 0 [] := ⟨rfl, by simp, owns_empty w⟩
theorem step_appl {ops : Array Oper} {rest : List Oper} {op : Oper} {a : Act} {w : World} {Q : Exit → Act → World → Prop} (t : TypeId) (hgd : op.guard = none) (d s : Operand)
    (ho : op.op = .call { callee := .builtin .append, args := #[d, s], argTypes := #[t, t] }) (x y : Value) (hd : a.eval d = x) (hs : a.eval s = y) (v : Value) (w' : World) (hrun : (Builtin.append_ #[t, t] op.type #[x, y]).run Try.prog w = .ok v w')
    (h : wpList Try.prog ops Q rest (a.put op.dst v) w') : wpList Try.prog ops Q (op :: rest) a w :=
  wpList_plain hgd fun _ hK => by
    unfold Oper.wp execOp
    simp only [ho, resolve, invoke, builtin, Sem.run_bind, Sem.run_pure, Result.andThen_ok, List.map_toArray, List.map_cons, List.map_nil, hd, hs, hrun]
    exact hK _ _ h
theorem getD_lt {l : List Nat} (h : ∀ x ∈ l, x < 256) (i : Nat) : l.getD i 0 < 256 := by
  rw [List.getD_eq_getElem?_getD]
  by_cases hi : i < l.length
  · rw [List.getElem?_eq_getElem hi]; exact h _ (List.getElem_mem hi)
  · rw [List.getElem?_eq_none (by omega)]; decide
/-- The rows ls lie where the slice that begins at a leads. -/
def Grid (w : World) (a : Option Addr) (ls : List (List Nat)) : Prop :=
  ls = [] ∨ ∃ b off, a = some ⟨b, off, none⟩ ∧ b < w.heap.size ∧ ∀ i, i < ls.length → ∃ ai ci, w.cell? ⟨b, off + i, none⟩ = some (.slice ai (ls.getD i []).length ci) ∧ Row w ai (ls.getD i [])
theorem Grid.below {w w' : World} {a : Option Addr} {ls : List (List Nat)} (h : Grid w a ls) (hb : Below w.heap.size w w') : Grid w' a ls := by
  rcases h with h | ⟨b, off, ha, hlt, hc⟩
  · exact .inl h
  · refine .inr ⟨b, off, ha, Nat.lt_of_lt_of_le hlt hb.size, fun i hi => ?_⟩
    obtain ⟨ai, ci, h1, h2⟩ := hc i hi
    exact ⟨ai, ci, (hb.cell (p := ⟨b, off + i, none⟩) hlt).trans h1, h2.below hb⟩
theorem Grid.at_ {w : World} {a : Option Addr} {ls : List (List Nat)} (h : Grid w a ls) (hne : ls ≠ []) : ∃ b off, a = some ⟨b, off, none⟩ ∧ ∀ i, i < ls.length → ∃ ai ci, w.cell? ⟨b, off + i, none⟩ = some (.slice ai (ls.getD i []).length ci) ∧ Row w ai (ls.getD i []) := by
  rcases h with h | ⟨b, off, ha, _, hc⟩
  · exact absurd h hne
  · exact ⟨b, off, ha, hc⟩
theorem owns_below {w w' : World} {base e : Nat} {v : Value} {n : Nat} {xs : List Value} (h : w.ownsRow base e 1 v n xs) (hb : Below w.heap.size w w') : w'.ownsRow base e 1 v n xs := by
  refine ⟨h.1, ?_⟩
  rcases h.2 with h3 | ⟨g', cap', cur, he, hb', hg, hc⟩
  · exact .inl h3
  · exact .inr ⟨g', cap', cur, he, hb', (hb.block g' (Array.getElem?_eq_some_iff.1 hg).1).trans hg, hc⟩
theorem owns_grown {w w' : World} {base e : Nat} {v : Value} {n : Nat} {xs : List Value} {o : Option Nat} (h : w.ownsRow base e 1 v n xs) (hg : w.grownBy w' o) (hne : ∀ k, v.ownBlock = some k → o ≠ some k) : w'.ownsRow base e 1 v n xs := by
  refine ⟨h.1, ?_⟩
  rcases h.2 with h3 | ⟨g', cap', cur, he, hb', hg', hc⟩
  · exact .inl h3
  · refine .inr ⟨g', cap', cur, he, hb', (hg.block g' (Array.getElem?_eq_some_iff.1 hg').1 ?_).trans hg', hc⟩
    exact fun e' => hne g' (by rw [he]; rfl) e'.symm
theorem owns_lt {w : World} {base e : Nat} {v : Value} {n : Nat} {xs : List Value} (h : w.ownsRow base e 1 v n xs) {k : Nat} (hk : v.ownBlock = some k) : k < w.heap.size ∧ base ≤ k := by
  rcases h.2 with ⟨rfl, _⟩ | ⟨g', cap', cur, rfl, hb', hg', hc⟩
  · simp [Value.ownBlock] at hk
  · simp [Value.ownBlock] at hk
    subst hk
    exact ⟨(Array.getElem?_eq_some_iff.1 hg').1, hb'⟩
theorem owns_slice {w : World} {base e : Nat} {v : Value} {n : Nat} {xs : List Value} (h : w.ownsRow base e 1 v n xs) : ∃ a c, v = .slice a n c := by
  rcases h.2 with ⟨rfl, rfl⟩ | ⟨g', cap', cur, rfl, hb', hg', hc⟩
  · exact ⟨_, _, rfl⟩
  · exact ⟨_, _, rfl⟩
/-- The whole numbers l lie where the slice that begins at a leads. -/
def IRow (w : World) (a : Option Addr) (l : List Int) : Prop :=
  l = [] ∨ ∃ b off, a = some ⟨b, off, none⟩ ∧ b < w.heap.size ∧ ∀ i, i < l.length → w.cell? ⟨b, off + i, none⟩ = some (.int .i64 (l.getD i 0))
theorem IRow.below {w w' : World} {a : Option Addr} {l : List Int} (h : IRow w a l) (hb : Below w.heap.size w w') : IRow w' a l := by
  rcases h with h2 | ⟨b, off, ha, hlt, hc⟩
  · exact .inl h2
  · exact .inr ⟨b, off, ha, Nat.lt_of_lt_of_le hlt hb.size, fun i hi => (hb.cell (p := ⟨b, off + i, none⟩) hlt).trans (hc i hi)⟩
theorem IRow.nil (w : World) (a : Option Addr) : IRow w a [] := .inl rfl
def ivals (l : List Int) : List Value := l.map fun n => Value.int .i64 n
theorem ivals_len (l : List Int) : (ivals l).length = l.length := by simp [ivals]
theorem ivals_get (l : List Int) (i : Nat) (hi : i < l.length) : (ivals l)[i]? = some (.int .i64 (l.getD i 0)) := by
  simp [ivals, List.getD_eq_getElem?_getD, List.getElem?_eq_getElem hi]
theorem ivals_one (l : List Int) : ∀ u ∈ ivals l, u.oneCell' = true := by
  intro u hu
  obtain ⟨n, _, rfl⟩ := List.mem_map.1 hu
  rfl
theorem ivals_app (a b : List Int) : ivals (a ++ b) = ivals a ++ ivals b := by simp [ivals]
theorem info3 : (Try.prog.info? 3).map (fun i => (i.zero, i.size, i.bytes)) = some (some (.int .i64 0), 1, 8) := by kernel_rfl
theorem info3' : ∃ i, Try.prog.info? 3 = some i ∧ i.zero = some (.int .i64 0) ∧ i.size = 1 ∧ i.bytes = 8 := by
  obtain ⟨i, hi, hzz⟩ := Option.map_eq_some_iff.1 info3
  simp only [Prod.mk.injEq] at hzz
  exact ⟨i, hi, hzz.1, hzz.2.1, hzz.2.2⟩
theorem irow_of_owns {w : World} {base : Nat} {v : Value} {l : List Int} (h : w.ownsRow base 3 1 v l.length (ivals l)) :
    ∃ a cap, v = .slice a l.length cap ∧ IRow w a l ∧ (∀ x, a = some x → base ≤ x.block) := by
  rcases h.2 with ⟨rfl, h0⟩ | ⟨g, cap, cur, rfl, hb, hg, hc, hm, hs, ht⟩
  · obtain rfl : l = [] := List.length_eq_zero_iff.1 h0
    exact ⟨none, 0, rfl, .inl rfl, by simp⟩
  · refine ⟨_, cap, rfl, .inr ⟨g, 0, rfl, (Array.getElem?_eq_some_iff.1 hg).1, fun i hi => ?_⟩, fun x hx => by simp at hx; rw [← hx]; exact hb⟩
    rw [Nat.zero_add, cell_of_row w g i cur 3 (0, 0) hg]
    have := ivals_get l i hi
    rw [← ht, Nat.mul_one, List.getElem?_take, if_pos hi] at this
    simpa using this
/-- One element more behind a row of one's own. -/
theorem app_one (W : World) (ts te ty : TypeId) (by_ : Nat) (z : Value) (hts : Try.prog.underlying ts = some (.slice te)) (hi : (Try.prog.info? te).map (fun i => (i.zero, i.size, i.bytes)) = some (some z, 1, by_)) (hz : z.cells.size = 1) (hby2 : by_ ≤ 100)
    (base : Nat) (v : Value) (n : Nat) (xs : List Value) (hown : W.ownsRow base te 1 v n xs) (y : Nat) (u : Value) (hy : W.heap[y]? = some (.cells #[u] te (0, 0))) (hu : u.oneCell' = true) (hn : n ≤ 1000000) (hbase : base ≤ W.heap.size) :
    ∃ g cap' w', (Builtin.append_ #[ts, ts] ty #[v, .slice (some ⟨y, 0, none⟩) 1 1]).run Try.prog W = .ok (.slice (some ⟨g, 0, none⟩) (n + 1) cap') w' ∧ w'.ownsRow base te 1 (.slice (some ⟨g, 0, none⟩) (n + 1) cap') (n + 1) (xs ++ [u]) ∧ W.grownBy w' v.ownBlock ∧ (v.ownBlock = some g ∨ W.heap.size ≤ g) := by
  obtain ⟨i, hi5, hzz⟩ := Option.map_eq_some_iff.1 hi
  simp only [Prod.mk.injEq] at hzz
  have hmul : (n + 1) * by_ ≤ 1000001 * 100 := Nat.mul_le_mul (by omega) hby2
  obtain ⟨g, cap', w', hrun, h2, h3, h4, _⟩ := run_append_lies (P := Try.prog) W ts ty base te i z 1 by_ hts hi5 hzz.1 hzz.2.1 hzz.2.2 hz (by omega) v n xs hown ⟨y, 0, none⟩ 1 1 [u] rfl (by
    intro j x hx
    have hj : j = 0 := by
      have := (List.getElem?_eq_some_iff.1 hx).1
      simp at this
      exact this
    subst hj
    simp at hx
    subst hx
    rw [addr_add0, cell_of_row W y 0 _ te (0, 0) hy]
    rfl) (by intro x hx; simp at hx; subst hx; exact hu) (by decide) (by unfold maxLen; omega) (by omega) hbase _ rfl
  exact ⟨g, cap', w', hrun, h2, h3, h4.imp id fun e => by omega⟩
theorem wpList_app_one {ops : Array Oper} {rest : List Oper} {o : Oper} {act : Act} {Q : Exit → Act → World → Prop} (W : World) (ts te : TypeId) (hgd : o.guard = none) (s x : Operand)
    (ho : o.op = .call { callee := .builtin .append, args := #[s, x], argTypes := #[ts, ts] })
    (by_ : Nat) (z : Value) (hts : Try.prog.underlying ts = some (.slice te)) (hi : (Try.prog.info? te).map (fun i => (i.zero, i.size, i.bytes)) = some (some z, 1, by_)) (hz : z.cells.size = 1) (hby2 : by_ ≤ 100)
    (base : Nat) (v : Value) (n : Nat) (xs : List Value) (hs : act.eval s = v) (hown : W.ownsRow base te 1 v n xs) (y : Nat) (u : Value) (hx : act.eval x = .slice (some ⟨y, 0, none⟩) 1 1) (hy : W.heap[y]? = some (.cells #[u] te (0, 0))) (hu : u.oneCell' = true) (hn : n ≤ 1000000) (hbase : base ≤ W.heap.size)
    (h : ∀ g cap' w', w'.ownsRow base te 1 (.slice (some ⟨g, 0, none⟩) (n + 1) cap') (n + 1) (xs ++ [u]) → W.grownBy w' v.ownBlock → (v.ownBlock = some g ∨ W.heap.size ≤ g) → wpList Try.prog ops Q rest (act.put o.dst (.slice (some ⟨g, 0, none⟩) (n + 1) cap')) w') : wpList Try.prog ops Q (o :: rest) act W :=
  wpList_plain hgd fun _ hK => by
    obtain ⟨g, cap', w', hrun, h2, h3, h4⟩ := app_one W ts te o.type by_ z hts hi hz hby2 base v n xs hown y u hy hu hn hbase
    unfold Oper.wp execOp
    simp only [ho, resolve, invoke, builtin, Sem.run_bind, Sem.run_pure, Result.andThen_ok, List.map_toArray, List.map_cons, List.map_nil, hs, hx, hrun]
    exact hK _ _ (h g cap' w' h2 h3 h4)
theorem info40s : (Try.prog.info? 54).map (fun i => (i.zero, i.size, i.bytes)) = some (some (.slice none 0 0), 1, 24) := by kernel_rfl

structure But (S : Nat → Prop) (w w' : World) : Prop where
  os : w'.os = w.os
  tape : w'.tape = w.tape
  output : w'.output = w.output
  size : w.heap.size ≤ w'.heap.size
  block : ∀ k, k < w.heap.size → ¬ S k → w'.heap[k]? = w.heap[k]?
theorem But.refl (S : Nat → Prop) (w : World) : But S w w := ⟨rfl, rfl, rfl, Nat.le_refl _, fun _ _ _ => rfl⟩
theorem But.trans {S T : Nat → Prop} {w w1 w2 : World} (h : But S w w1) (h1 : But T w1 w2) (ht : ∀ k, T k → S k ∨ w.heap.size ≤ k) : But S w w2 where
  os := h1.os.trans h.os
  tape := h1.tape.trans h.tape
  output := h1.output.trans h.output
  size := Nat.le_trans h.size h1.size
  block := fun k hk hs => by
    refine (h1.block k (Nat.lt_of_lt_of_le hk h.size) fun e => ?_).trans (h.block k hk hs)
    rcases ht k e with e | e
    · exact hs e
    · omega
theorem But.mono {S T : Nat → Prop} {w w1 : World} (h : But S w w1) (ht : ∀ k, S k → T k ∨ w.heap.size ≤ k) : But T w w1 :=
  ⟨h.os, h.tape, h.output, h.size, fun k hk hs => h.block k hk fun e => by rcases ht k e with e | e; exact hs e; omega⟩
theorem below_but {w w' : World} (S : Nat → Prop) (h : Below w.heap.size w w') : But S w w' := ⟨h.os, h.tape, h.output, h.size, fun k hk _ => h.block k hk⟩
theorem But.below {S : Nat → Prop} {w w' : World} {base : Nat} (h : But S w w') (hs : ∀ k, S k → base ≤ k) (hb : base ≤ w.heap.size) : Below base w w' :=
  ⟨h.os, h.tape, h.output, h.size, fun k hk => h.block k (by omega) fun e => by have := hs k e; omega⟩
theorem below_tr {b : Nat} {w w1 w2 : World} (h : Below b w w1) (h1 : Below w1.heap.size w1 w2) (hb : b ≤ w1.heap.size) : Below b w w2 := h.trans (h1.mono hb)

/-- Blocks by what they are. -/
def Tag (w : World) (k : Nat) (t : TypeId) : Prop := ∃ cur, w.heap[k]? = some (.cells cur t (0, 0))
theorem Tag.ne {w : World} {j k : Nat} {s t : TypeId} (h : Tag w j s) (h2 : Tag w k t) (hne : s ≠ t) : j ≠ k := by
  rintro rfl
  obtain ⟨c, h⟩ := h
  obtain ⟨d, h2⟩ := h2
  rw [h] at h2
  simp at h2
  exact hne h2.2
theorem Row.but {S : Nat → Prop} {w w' : World} {a : Option Addr} {l : List Nat} (h : Row w a l) (hb : But S w w') (hs : ∀ v, a = some v → ¬ S v.block) : Row w' a l := by
  refine ⟨h.1, ?_⟩
  rcases h.2 with h2 | ⟨b, off, ha, hlt, hc⟩
  · exact .inl h2
  · refine .inr ⟨b, off, ha, Nat.lt_of_lt_of_le hlt hb.size, fun i hi => ?_⟩
    have e := hb.block b hlt (hs _ ha)
    rw [← hc i hi]
    simp only [World.cell?, e]
theorem below_of_drew {b : Nat} {w w' : World} (h : Below b w.drew w') : Below b w w' := ⟨h.os, h.tape, h.output, h.size, h.block⟩
theorem below_of_drewN {b n : Nat} {w w' : World} (h : Below b (w.drewN n) w') : Below b w w' := ⟨h.os, h.tape, h.output, h.size, h.block⟩
theorem but_of_drew {S : Nat → Prop} {w w' : World} (h : But S w.drew w') : But S w w' := ⟨h.os, h.tape, h.output, h.size, h.block⟩
theorem owns_nil3 (w : World) (base : Nat) : w.ownsRow base 3 1 (.slice none 0 0) ([] : List Int).length (ivals []) := World.ownsRow_nil _ _ 3 1
theorem IRow.cell {w : World} {a : Option Addr} {l : List Int} (h : IRow w a l) (hl : l ≠ []) : ∃ b off, a = some ⟨b, off, none⟩ ∧ b < w.heap.size ∧ ∀ i, i < l.length → w.cell? ⟨b, off + i, none⟩ = some (.int .i64 (l.getD i 0)) := by
  rcases h with h | h
  · exact absurd h hl
  · exact h
def iv (l : List Nat) : List Int := l.map fun n : Nat => (n : Int)
theorem iv_len (l : List Nat) : (iv l).length = l.length := by simp [iv]
theorem iv_get (l : List Nat) (i : Nat) : (iv l).getD i 0 = (l.getD i 0 : Nat) := by
  simp only [iv, List.getD_eq_getElem?_getD, List.getElem?_map]
  cases l[i]? <;> rfl
theorem iv_app (a b : List Nat) : iv (a ++ b) = iv a ++ iv b := by simp [iv]
theorem owns_but {S : Nat → Prop} {w w' : World} {base e n : Nat} {v : Value} {xs : List Value} (h : w.ownsRow base e 1 v n xs) (hb : But S w w') (hs : ∀ k, S k → k < base) : w'.ownsRow base e 1 v n xs := by
  refine ⟨h.1, ?_⟩
  rcases h.2 with h3 | ⟨g', cap', cur, he, hb', hg, hc⟩
  · exact .inl h3
  · exact .inr ⟨g', cap', cur, he, hb', (hb.block g' (Array.getElem?_eq_some_iff.1 hg).1 fun e => by have := hs _ e; omega).trans hg, hc⟩
theorem grown_but {w w' : World} {o : Option Nat} (S : Nat → Prop) (h : w.grownBy w' o) (ho : ∀ k, o = some k → S k) : But S w w' :=
  ⟨h.os, h.tape, h.output, h.size, fun k hk hs => h.block k hk fun e => hs (ho k e.symm)⟩
theorem owns_block {w : World} {base e : Nat} {v : Value} {n : Nat} {xs : List Value} (h : w.ownsRow base e 1 v n xs) (k : Nat) (hk : v.ownBlock = some k) : base ≤ k := (owns_lt h hk).2
/-- Records in a row of one's own; R: where they lie. -/
def Recs (R : Nat → Prop) (base : Nat) (w : World) (v : Value) (rs : List (List Nat)) : Prop :=
  ∃ xs : List Value, w.ownsRow base 54 1 v rs.length xs ∧ ∀ i, i < rs.length → ∃ b off c, xs[i]? = some (.slice (some ⟨b, off, none⟩) (rs.getD i []).length c) ∧ Row w (some ⟨b, off, none⟩) (rs.getD i []) ∧ rs.getD i [] ≠ [] ∧ R b ∧ v.ownBlock ≠ some b
theorem recs_nil (R : Nat → Prop) (base : Nat) (w : World) : Recs R base w (.slice none 0 0) [] := ⟨[], World.ownsRow_nil _ _ 54 1, fun i hi => by simp at hi⟩
theorem Row.lt {w : World} {b off : Nat} {l : List Nat} (h : Row w (some ⟨b, off, none⟩) l) (hne : l ≠ []) : b < w.heap.size := by
  rcases h.2 with h2 | ⟨b', o', e, hlt, _⟩
  · exact absurd h2 hne
  · simp at e; obtain ⟨rfl, _⟩ := e; exact hlt
theorem Recs.but {R S : Nat → Prop} {base : Nat} {w w' : World} {v : Value} {rs : List (List Nat)} (h : Recs R base w v rs) (hb : But S w w') (h1 : ∀ k, S k → k < base ∧ ¬ R k) : Recs R base w' v rs := by
  obtain ⟨xs, ho, hx⟩ := h
  refine ⟨xs, owns_but ho hb (fun k e => (h1 k e).1), fun i hi => ?_⟩
  obtain ⟨b, off, c, e1, e2, e3, e4, e5⟩ := hx i hi
  exact ⟨b, off, c, e1, e2.but hb (fun p e => by simp at e; subst e; exact fun hs => (h1 _ hs).2 e4), e3, e4, e5⟩
theorem Recs.below {R : Nat → Prop} {base : Nat} {w w' : World} {v : Value} {rs : List (List Nat)} (h : Recs R base w v rs) (hb : Below w.heap.size w w') : Recs R base w' v rs :=
  h.but (below_but (fun _ => False) hb) (fun _ e => e.elim)
theorem Recs.mono {R R' : Nat → Prop} {base : Nat} {w : World} {v : Value} {rs : List (List Nat)} (h : Recs R base w v rs) (hr : ∀ k, R k → R' k) : Recs R' base w v rs := by
  obtain ⟨xs, ho, hx⟩ := h
  refine ⟨xs, ho, fun i hi => ?_⟩
  obtain ⟨b, off, c, e1, e2, e3, e4, e5⟩ := hx i hi
  exact ⟨b, off, c, e1, e2, e3, hr _ e4, e5⟩
theorem Recs.slice {R : Nat → Prop} {base : Nat} {w : World} {v : Value} {rs : List (List Nat)} (h : Recs R base w v rs) : ∃ a c, v = .slice a rs.length c := by
  obtain ⟨xs, ho, _⟩ := h
  exact owns_slice ho
theorem Recs.grid {R : Nat → Prop} {base : Nat} {w : World} {a : Option Addr} {n c : Nat} {rs : List (List Nat)} (h : Recs R base w (.slice a n c) rs) : n = rs.length ∧ Grid w a rs := by
  obtain ⟨xs, ho, hx⟩ := h
  rcases ho.2 with ⟨e, h0⟩ | ⟨g, cap, cur, e, hb, hg, hc, hm, hs, ht⟩
  · simp at e
    exact ⟨by omega, .inl (List.length_eq_zero_iff.1 h0)⟩
  · simp at e
    obtain ⟨rfl, rfl, rfl⟩ := e
    refine ⟨rfl, .inr ⟨g, 0, rfl, (Array.getElem?_eq_some_iff.1 hg).1, fun i hi => ?_⟩⟩
    obtain ⟨b, off, c', e1, e2, _⟩ := hx i hi
    refine ⟨some ⟨b, off, none⟩, c', ?_, e2⟩
    rw [Nat.zero_add, cell_of_row w g i cur 54 (0, 0) hg]
    rw [← ht, Nat.mul_one, List.getElem?_take, if_pos hi] at e1
    simpa using e1
/-- One record more. -/
theorem Recs.snoc {R : Nat → Prop} {base : Nat} {w w2 : World} {v : Value} {rs : List (List Nat)} {r : List Nat} {b off n c g cap : Nat} (xs : List Value)
    (hx : ∀ i, i < rs.length → ∃ b off c, xs[i]? = some (.slice (some ⟨b, off, none⟩) (rs.getD i []).length c) ∧ Row w (some ⟨b, off, none⟩) (rs.getD i []) ∧ rs.getD i [] ≠ [] ∧ R b ∧ v.ownBlock ≠ some b)
    (hl : xs.length = rs.length) (hr : Row w (some ⟨b, off, none⟩) r) (hrl : r.length = n) (hne : r ≠ []) (hR : R b) (hv : v.ownBlock ≠ some b)
    (ho : w2.ownsRow base 54 1 (.slice (some ⟨g, 0, none⟩) (rs.length + 1) cap) (rs.length + 1) (xs ++ [.slice (some ⟨b, off, none⟩) n c]))
    (hg : (w.alloc (.cells #[.slice (some ⟨b, off, none⟩) n c] 54)).grownBy w2 v.ownBlock) (hat : v.ownBlock = some g ∨ (w.alloc (.cells #[.slice (some ⟨b, off, none⟩) n c] 54)).heap.size ≤ g) : Recs R base w2 (.slice (some ⟨g, 0, none⟩) (rs.length + 1) cap) (rs ++ [r]) := by
  have hkeep : ∀ {b' off' : Nat} {l : List Nat}, Row w (some ⟨b', off', none⟩) l → l ≠ [] → v.ownBlock ≠ some b' → Row w2 (some ⟨b', off', none⟩) l := fun {b' off' l} h1 h2 h3 => by
    have h4 := h1.below ((Below.refl _ w).alloc (Nat.le_refl _) (.cells #[.slice (some ⟨b, off, none⟩) n c] 54))
    exact h4.but (grown_but (fun k => v.ownBlock = some k) hg (fun k e => e)) (fun p e => by simp at e; subst e; exact h3)
  have hne2 : ∀ {b' off' : Nat} {l : List Nat}, Row w (some ⟨b', off', none⟩) l → l ≠ [] → v.ownBlock ≠ some b' → (Value.slice (some ⟨g, 0, none⟩) (rs.length + 1) cap).ownBlock ≠ some b' := fun {b' off' l} h1 h2 h3 e => by
    simp [Value.ownBlock] at e
    rcases hat with h | h
    · exact h3 (by rw [h, e])
    · have := h1.lt h2
      simp at h
      omega
  refine ⟨xs ++ [.slice (some ⟨b, off, none⟩) n c], by rw [List.length_append]; exact ho, fun i hi => ?_⟩
  by_cases hi2 : i < rs.length
  · obtain ⟨b', off', c', e1, e2, e3, e4, e5⟩ := hx i hi2
    have e : (rs ++ [r]).getD i [] = rs.getD i [] := by simp [List.getElem?_append_left hi2]
    rw [e]
    exact ⟨b', off', c', by rw [List.getElem?_append_left (by omega)]; exact e1, hkeep e2 e3 e5, e3, e4, hne2 e2 e3 e5⟩
  · have hi3 : i = rs.length := by simp at hi; omega
    subst hi3
    have e : (rs ++ [r]).getD rs.length [] = r := by simp
    rw [e, hrl]
    exact ⟨b, off, c, by rw [← hl]; simp, hkeep hr hne hv, hne, hR, hne2 hr hne hv⟩
theorem fromA_some {b off k cap : Nat} (h : k < cap) : fromA (some ⟨b, off, none⟩) k cap = some ⟨b, off + k, none⟩ := by
  simp only [fromA, if_neg (show ¬ cap = k by omega), Option.map_some, Addr.add]
  split
  · next h => rw [h]; rfl
  · rfl
theorem owns_tag {w : World} {base e n k : Nat} {v : Value} {xs : List Value} (h : w.ownsRow base e 1 v n xs) (hk : v.ownBlock = some k) : Tag w k e := by
  rcases h.2 with ⟨rfl, _⟩ | ⟨g', cap', cur, rfl, hb', hg', hc⟩
  · simp [Value.ownBlock] at hk
  · simp [Value.ownBlock] at hk
    subst hk
    exact ⟨_, hg'⟩
end Go.Proofs.Ytccahhehbpahoaa
