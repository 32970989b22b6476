/- What lies in memory where this program writes and reads: rows of bytes, texts; and what stays as it was. No condition. -/
import Derived.Test.YtccahhehbpahoaaRows
import Derived.WalkKit
import Derived.WalkSpells
import Derived.WalkLawsBesides
import Derived.Below
import Derived.Outline
import Derived.Laws.Rows
import Derived.Laws.BitsAllLaws
import Derived.Deep.LoopGhost
import Derived.Laws.BytesString
import Derived.Laws.Strings2
import Derived.Deep.AppendLies
import Derived.Deep.OwnRows
import Derived.Lib.AppendStr
import Derived.RangeFuncBox
import Derived.ProofKit
import Derived.OpenShut
import Derived.ShutString
import Derived.ChangeOld
import Derived.Deep.MidRow
import Derived.Laws.CopyOwn
import Derived.Laws.CopyRow
import Derived.Deep.WholeRow
namespace Go.Proofs.Ytccahhehbpahoaa
open Go.RowKit
set_option maxRecDepth 4000

/-- But for the block q and the block o all that was there lies as it lay. -/
structure Only (q : Nat) (o : Option Nat) (w w' : World) : Prop where
  os : w'.os = w.os
  tape : w'.tape = w.tape
  output : w'.output = w.output
  size : w.heap.size ≤ w'.heap.size
  block : ∀ k, k < w.heap.size → k ≠ q → some k ≠ o → w'.heap[k]? = w.heap[k]?
theorem Only.refl (q : Nat) (o : Option Nat) (w : World) : Only q o w w := ⟨rfl, rfl, rfl, Nat.le_refl _, fun _ _ _ _ => rfl⟩
theorem Only.trans {q : Nat} {o o1 : Option Nat} {w w1 w2 : World} (h : Only q o w w1) (h1 : Only q o1 w1 w2) (ho : o1 = o ∨ ∃ g, o1 = some g ∧ w.heap.size ≤ g) : Only q o w w2 where
  os := h1.os.trans h.os
  tape := h1.tape.trans h.tape
  output := h1.output.trans h.output
  size := Nat.le_trans h.size h1.size
  block := fun k hk hq ho1 => by
    refine (h1.block k (Nat.lt_of_lt_of_le hk h.size) hq ?_).trans (h.block k hk hq ho1)
    rcases ho with rfl | ⟨g, rfl, hg⟩
    · exact ho1
    · intro e; simp at e; omega
theorem Only.below {q : Nat} {o : Option Nat} {w w' : World} {base : Nat} (h : Only q o w w') (hq : base ≤ q) (ho : ∀ k, o = some k → base ≤ k) (hb : base ≤ w.heap.size) : Below base w w' :=
  ⟨h.os, h.tape, h.output, h.size, fun k hk => h.block k (by omega) (by omega) (fun e => by have := ho k e.symm; omega)⟩
theorem Only.of_below {q : Nat} {o : Option Nat} {w w' : World} (h : Below w.heap.size w w') : Only q o w w' := ⟨h.os, h.tape, h.output, h.size, fun k hk _ _ => h.block k hk⟩
theorem Only.drew {q : Nat} {o : Option Nat} {w w' : World} (h : Only q o w w') : Only q o w w'.drew := ⟨h.os, h.tape, h.output, h.size, h.block⟩
theorem Only.drewN {q : Nat} {o : Option Nat} {w w' : World} (h : Only q o w w') (n : Nat) : Only q o w (w'.drewN n) := ⟨h.os, h.tape, h.output, h.size, h.block⟩

/-! ### Rows of bytes -/
def vals (m : List Nat) : List Value := m.map fun n : Nat => Value.int .u8 (n : Int)
def row8 (l : List Nat) : Array Value := (vals l).toArray
theorem vals_get (m : List Nat) (i : Nat) (hi : i < m.length) : (vals m)[i]? = some (.int .u8 (m.getD i 0 : Nat)) := by
  simp [vals, hi]
theorem vals_len (m : List Nat) : (vals m).length = m.length := by simp [vals]
theorem vals_one (m : List Nat) : ∀ u ∈ vals m, u.oneCell' = true := by
  intro u hu
  obtain ⟨n, _, rfl⟩ := List.mem_map.1 hu
  rfl
theorem vals_app (a b : List Nat) : vals (a ++ b) = vals a ++ vals b := by simp [vals]
theorem row8_get (l : List Nat) (i : Nat) (hi : i < l.length) : (row8 l)[i]? = some (.int .u8 (l.getD i 0 : Nat)) := by
  rw [row8, List.getElem?_toArray]; exact vals_get l i hi
/-- The bytes l lie where the slice that begins at a leads. -/
def Row (w : World) (a : Option Addr) (l : List Nat) : Prop :=
  (∀ x ∈ l, x < 256) ∧ (l = [] ∨ ∃ b off, a = some ⟨b, off, none⟩ ∧ b < w.heap.size ∧ ∀ i, i < l.length → w.cell? ⟨b, off + i, none⟩ = some (.int .u8 (l.getD i 0 : Nat)))
theorem Row.below {w w' : World} {a : Option Addr} {l : List Nat} (h : Row w a l) (hb : Below w.heap.size w w') : Row w' a l := by
  refine ⟨h.1, ?_⟩
  rcases h.2 with h2 | ⟨b, off, ha, hlt, hc⟩
  · exact .inl h2
  · exact .inr ⟨b, off, ha, Nat.lt_of_lt_of_le hlt hb.size, fun i hi => (hb.cell (p := ⟨b, off + i, none⟩) hlt).trans (hc i hi)⟩
theorem row_nil (w : World) (a : Option Addr) : Row w a [] := ⟨by simp, .inl rfl⟩
theorem row_new (w : World) (l : List Nat) (hl : ∀ x ∈ l, x < 256) (t : TypeId) (m : Nat × Nat) : Row (w.alloc (.cells (row8 l) t m)) (some ⟨w.heap.size, 0, none⟩) l := by
  refine ⟨hl, .inr ⟨w.heap.size, 0, rfl, by simp, fun i hi => ?_⟩⟩
  rw [cell_of_row _ _ _ _ t m (heap_alloc_new w _), Nat.zero_add, row8_get l i hi]
theorem row_of_owns {w : World} {base : Nat} {v : Value} {l : List Nat} (h : w.ownsRow base 5 1 v l.length (vals l)) (hl : ∀ x ∈ l, x < 256) :
    ∃ a cap, v = .slice a l.length cap ∧ l.length ≤ cap ∧ cap ≤ maxLen ∧ Row w a l := by
  rcases h.2 with ⟨rfl, h0⟩ | ⟨g, cap, cur, rfl, hb, hg, hc, hm, hs, ht⟩
  · obtain rfl : l = [] := List.length_eq_zero_iff.1 h0
    exact ⟨none, 0, rfl, Nat.le_refl _, Nat.zero_le _, row_nil _ _⟩
  · refine ⟨_, cap, rfl, hc, hm, hl, .inr ⟨g, 0, rfl, (Array.getElem?_eq_some_iff.1 hg).1, fun i hi => ?_⟩⟩
    rw [Nat.zero_add, cell_of_row w g i cur 5 (0, 0) hg]
    have := vals_get l i hi
    rw [← ht, Nat.mul_one, List.getElem?_take, if_pos hi] at this
    simpa using this
theorem news_of {w : World} {b off : Nat} {l : List Nat} (h : ∀ i, i < l.length → w.cell? ⟨b, off + i, none⟩ = some (.int .u8 (l.getD i 0 : Nat))) :
    ∀ j u, (vals l)[j]? = some u → w.cell? ((⟨b, off, none⟩ : Addr).add j) = some u := by
  intro j u hu
  have hj : j < l.length := by have := (List.getElem?_eq_some_iff.1 hu).1; rwa [vals_len] at this
  have hadd : (⟨b, off, none⟩ : Addr).add j = ⟨b, off + j, none⟩ := by unfold Addr.add; split <;> simp_all
  rw [hadd, h j hj, ← vals_get l j hj, hu]
theorem info5 : (Try.prog.info? 5).map (fun i => (i.zero, i.size, i.bytes)) = some (some (.int .u8 0), 1, 1) := by kernel_rfl
theorem info5' : ∃ i, Try.prog.info? 5 = some i ∧ i.zero = some (.int .u8 0) ∧ i.size = 1 ∧ i.bytes = 1 := by
  obtain ⟨i, hi, hzz⟩ := Option.map_eq_some_iff.1 info5
  simp only [Prod.mk.injEq] at hzz
  exact ⟨i, hi, hzz.1, hzz.2.1, hzz.2.2⟩
/-- An append of a row of bytes onto a row that the call owns, or onto nil: where the new slice lies, and what it holds. -/
theorem run_append_row (W : World) (ty : TypeId) (base : Nat) (v : Value) (l1 : List Nat) (hown : W.ownsRow base 5 1 v l1.length (vals l1)) (a : Option Addr) (l : List Nat) (cap : Nat) (hr : Row W a l) (hne : l ≠ [])
    (hsz : l1.length + l.length ≤ 1000000000) (hbase : base ≤ W.heap.size) :
    ∃ g cap' w', (Builtin.append_ #[54, 54] ty #[v, .slice a l.length cap]).run Try.prog W = .ok (.slice (some ⟨g, 0, none⟩) (l1 ++ l).length cap') w' ∧
      w'.ownsRow base 5 1 (.slice (some ⟨g, 0, none⟩) (l1 ++ l).length cap') (l1 ++ l).length (vals (l1 ++ l)) ∧ W.grownBy w' v.ownBlock ∧ (v.ownBlock = some g ∨ W.heap.size ≤ g) := by
  obtain ⟨i5, hi5, hz5, hs5, hy5⟩ := info5'
  rcases hr.2 with h | ⟨b, off, rfl, _, hc⟩
  · exact absurd h hne
  · have h0 : 0 < l.length := List.length_pos_iff.2 hne
    obtain ⟨g, cap', w', hrun, h2, h3, h4, _⟩ := run_append_lies (P := Try.prog) W 54 ty base 5 i5 (.int .u8 0) 1 1 Try.underlying54 hi5 hz5 hs5 hy5 rfl (by decide) v l1.length (vals l1) hown ⟨b, off, none⟩ l.length cap (vals l) (by rw [vals_len, Nat.mul_one]) (news_of hc) (vals_one l) h0 (by unfold maxLen; omega) (by omega) hbase _ rfl
    rw [vals_app, List.length_append]
    exact ⟨g, cap', w', hrun, h2, h3, h4.imp id fun e => by omega⟩
theorem wpList_append_row {ops : Array Oper} {rest : List Oper} {o : Oper} {act : Act} {Q : Exit → Act → World → Prop} (W : World) (hgd : o.guard = none) (s x : Operand)
    (ho : o.op = .call { callee := .builtin .append, args := #[s, x], argTypes := #[54, 54] })
    (base : Nat) (v : Value) (l1 : List Nat) (hs : act.eval s = v) (hown : W.ownsRow base 5 1 v l1.length (vals l1)) (a : Option Addr) (l : List Nat) (n cap : Nat) (hx : act.eval x = .slice a n cap) (hn : l.length = n) (hr : Row W a l) (hne : l ≠ [])
    (hsz : l1.length + l.length ≤ 1000000000) (hbase : base ≤ W.heap.size)
    (h : ∀ g m cap' w', (l1 ++ l).length = m → w'.ownsRow base 5 1 (.slice (some ⟨g, 0, none⟩) m cap') m (vals (l1 ++ l)) → W.grownBy w' v.ownBlock → (v.ownBlock = some g ∨ W.heap.size ≤ g) → wpList Try.prog ops Q rest (act.put o.dst (.slice (some ⟨g, 0, none⟩) m cap')) w') : wpList Try.prog ops Q (o :: rest) act W :=
  wpList_plain hgd fun _ hK => by
    subst hn
    obtain ⟨g, cap', w', hrun, h2, h3, h4⟩ := run_append_row W o.type base v l1 hown a l cap hr hne hsz hbase
    unfold Oper.wp execOp
    simp only [ho, resolve, invoke, builtin, Sem.run_bind, Sem.run_pure, Result.andThen_ok, List.map_toArray, List.map_cons, List.map_nil, hs, hx, hrun]
    exact hK _ _ (h g _ cap' w' rfl h2 h3 h4)

/-! ### Texts -/
def strOf (l : List Nat) : ByteArray := ByteArray.mk (l.map UInt8.ofNat).toArray
def lst (s : ByteArray) : List Nat := s.data.toList.map UInt8.toNat
theorem lst_lt (s : ByteArray) : ∀ x ∈ lst s, x < 256 := by
  intro x hx
  obtain ⟨b, _, rfl⟩ := List.mem_map.1 hx
  exact b.toNat_lt
theorem lst_len (s : ByteArray) : (lst s).length = s.size := by simp [lst]
theorem strOf_lst (s : ByteArray) : strOf (lst s) = s := by
  unfold strOf lst
  rw [List.map_map]
  have : (UInt8.ofNat ∘ UInt8.toNat) = id := by funext b; simp
  rw [this]
  simp
theorem strOf_size (l : List Nat) : (strOf l).size = l.length := by simp [strOf, ByteArray.size]
theorem strOf_cells (l : List Nat) (h : ∀ x ∈ l, x < 256) : Lib.strCells (strOf l) = vals l := by
  unfold Lib.strCells strOf vals
  simp only [List.map_map]
  apply List.map_congr_left
  intro x hx
  have := h x hx
  simp [Nat.mod_eq_of_lt this]
theorem strOf_take (l : List Nat) (n : Nat) : (strOf l).extract 0 n = strOf (l.take n) := by
  rw [strOf, ByteArray.extract_mk, strOf]; simp
theorem strOf_drop (l : List Nat) (n : Nat) : (strOf l).extract n l.length = strOf (l.drop n) := by
  rw [strOf, ByteArray.extract_mk, strOf]
  congr 2
  rw [List.map_drop, List.take_of_length_le (by simp)]
theorem strOf_inj {a b : List Nat} (ha : ∀ x ∈ a, x < 256) (hb : ∀ x ∈ b, x < 256) : strOf a = strOf b ↔ a = b := by
  constructor
  · intro h
    have e : a.map UInt8.ofNat = b.map UInt8.ofNat := by
      have := congrArg (fun s : ByteArray => s.data.toList) h
      simpa [strOf] using this
    have e2 := congrArg (List.map UInt8.toNat) e
    rw [List.map_map, List.map_map] at e2
    have f : ∀ l : List Nat, (∀ x ∈ l, x < 256) → l.map (UInt8.toNat ∘ UInt8.ofNat) = l := by
      intro l hl
      conv => rhs; rw [← List.map_id l]
      apply List.map_congr_left
      intro x hx
      have := hl x hx
      simp [Nat.mod_eq_of_lt this]
    rwa [f a ha, f b hb] at e2
  · intro h; rw [h]
theorem load_row8 (w : World) (b off : Nat) (l : List Nat) (h : ∀ i, i < l.length → w.cell? ⟨b, off + i, none⟩ = some (.int .u8 (l.getD i 0 : Nat))) :
    (loadCells ⟨b, off, none⟩ l.length).run Try.prog w = .ok ((l.map fun n : Nat => (n : Int)).map (Value.int .u8)).toArray w := by
  have := run_loadCells_list (P := Try.prog) w ⟨b, off, none⟩ ((l.map fun n : Nat => (n : Int)).map (Value.int .u8)) (fun j v hv => by
    have hadd : (⟨b, off, none⟩ : Addr).add j = ⟨b, off + j, none⟩ := by unfold Addr.add; split <;> simp_all
    have hj : j < l.length := by
      have := (List.getElem?_eq_some_iff.1 hv).1
      simpa using this
    rw [hadd, h j hj]
    simp [hj] at hv
    simp [hj, hv])
  simpa using this
theorem fold_str (l : List Nat) (s : ByteArray) : ((l.map fun n : Nat => (n : Int)).foldl (fun r n => r.push (UInt8.ofNat n.toNat)) s) = ByteArray.mk (s.data.toList ++ l.map UInt8.ofNat).toArray := by
  induction l generalizing s with
  | nil => simp
  | cons x l ih =>
    simp only [List.map_cons, List.foldl_cons, ih]
    simp [ByteArray.push]
theorem str_any (w : World) (a : Option Addr) (l : List Nat) (n cap : Nat) (hn : l.length = n) (hr : Row w a l) : (convert 54 9 (.slice a n cap)).run Try.prog w = .ok (.string (strOf l)) w := by
  subst hn
  rw [run_convert_bytes_string w 54 9 5 a l.length cap Try.underlying54 Try.underlying5 Try.underlying9]
  rcases hr.2 with rfl | ⟨b, off, rfl, _, hc⟩
  · cases a with
    | none => kernel_rfl
    | some x =>
      have h0 : (loadCells x 0).run Try.prog w = .ok (([] : List Int).map (Value.int .u8)).toArray w := run_loadCells_list (P := Try.prog) w x [] (by simp)
      exact run_bytesToString w x 0 cap [] h0
  · rw [run_bytesToString w ⟨b, off, none⟩ l.length cap _ (load_row8 w b off l hc), fold_str]
    rfl

end Go.Proofs.Ytccahhehbpahoaa
