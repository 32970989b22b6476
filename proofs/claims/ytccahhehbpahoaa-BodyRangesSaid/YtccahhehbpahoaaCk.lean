/- A store of pieces in memory; what stays as it was while others are at work. No condition. -/
import Derived.Test.YtccahhehbpahoaaMp
import Derived.Test.YtccahhehbpahoaaSt
import Derived.Deep.RegionHeld
namespace Go.Proofs.Ytccahhehbpahoaa
open Go.ChangeShapes Go.WideShapes Go.ChangeAt Go.RowKit
open Crc (nx)
set_option maxRecDepth 4000
set_option linter.unusedVariables false
/-- What the parts of a store are: maps, the store itself, rows of numbers, rows of bytes. -/
def Part (o : Obj) : Prop := (∃ es c, o = .map es c) ∨ ∃ cs t m, o = .cells cs t m ∧ (t = 81 ∨ t = 3 ∨ t = 5)
def Foot (q base k : Nat) : Prop := k = q ∨ base ≤ k
/-- What may be part of the store at q stays. -/
structure Kept (q base : Nat) (w w' : World) : Prop where
  size : w.heap.size ≤ w'.heap.size
  keep : ∀ k o, w.heap[k]? = some o → Foot q base k → Part o → w'.heap[k]? = some o
theorem Kept.refl (q base : Nat) (w : World) : Kept q base w w := ⟨Nat.le_refl _, fun _ _ h _ _ => h⟩
theorem Kept.trans {q base : Nat} {w w1 w2 : World} (h : Kept q base w w1) (h1 : Kept q base w1 w2) : Kept q base w w2 :=
  ⟨Nat.le_trans h.size h1.size, fun k o hk hf hp => h1.keep k o (h.keep k o hk hf hp) hf hp⟩
theorem lt_of_some {w : World} {k : Nat} {o : Obj} (h : w.heap[k]? = some o) : k < w.heap.size := (Array.getElem?_eq_some_iff.1 h).1
theorem Kept.of_below {q base : Nat} {w w' : World} (h : Below w.heap.size w w') : Kept q base w w' :=
  ⟨h.size, fun k _ hk _ _ => (h.block k (lt_of_some hk)).trans hk⟩
/-- What is done to the store at q leaves all else. -/
structure Chg (q base : Nat) (w w' : World) : Prop where
  os : w'.os = w.os
  tape : w'.tape = w.tape
  output : w'.output = w.output
  size : w.heap.size ≤ w'.heap.size
  low : ∀ k o, w.heap[k]? = some o → k < base → k ≠ q → w'.heap[k]? = some o
  typ : ∀ (k : Nat) (cs : Array Value) (t : TypeId) (m : Nat × Nat), w.heap[k]? = some (Obj.cells cs t m) → t ≠ 81 → t ≠ 3 → w'.heap[k]? = some (Obj.cells cs t m)
theorem Chg.refl (q base : Nat) (w : World) : Chg q base w w := ⟨rfl, rfl, rfl, Nat.le_refl _, fun _ _ h _ _ => h, fun _ _ _ _ h _ _ => h⟩
theorem Chg.trans {q base : Nat} {w w1 w2 : World} (h : Chg q base w w1) (h1 : Chg q base w1 w2) : Chg q base w w2 :=
  ⟨h1.os.trans h.os, h1.tape.trans h.tape, h1.output.trans h.output, Nat.le_trans h.size h1.size, fun k o hk hb hq => h1.low k o (h.low k o hk hb hq) hb hq, fun k cs t m hk h5 h3 => h1.typ k cs t m (h.typ k cs t m hk h5 h3) h5 h3⟩
theorem Chg.of_below {q base : Nat} {w w' : World} (h : Below w.heap.size w w') : Chg q base w w' :=
  ⟨h.os, h.tape, h.output, h.size, fun k o hk _ _ => (h.block k (lt_of_some hk)).trans hk, fun k cs t m hk _ _ => (h.block k (lt_of_some hk)).trans hk⟩
theorem Chg.below {q base b : Nat} {w w' : World} (h : Chg q base w w') (hq : b ≤ q) (hb : b ≤ base) (hs : b ≤ w.heap.size) : Below b w w' :=
  ⟨h.os, h.tape, h.output, h.size, fun k hk => by
    have : k < w.heap.size := by omega
    have e := Array.getElem?_eq_getElem (xs := w.heap) this
    rw [e]
    exact h.low k _ e (by omega) (by omega)⟩
theorem Chg.mono {q base b : Nat} {w w' : World} (h : Chg q base w w') (hb : b ≤ base) : Chg q b w w' :=
  ⟨h.os, h.tape, h.output, h.size, fun k o hk hb' hq => h.low k o hk (by omega) hq, h.typ⟩
/-- A row of bytes stays whatever is done to a store. -/
theorem Chg.owns {q base b : Nat} {w w' : World} {t : TypeId} {z n : Nat} {v : Value} {xs : List Value} (h : Chg q base w w') (ho : w.ownsRow b t z v n xs) (h5 : t ≠ 81) (h3 : t ≠ 3) : w'.ownsRow b t z v n xs := by
  refine ⟨ho.1, ?_⟩
  rcases ho.2 with h0 | ⟨g, cap, cur, rfl, hb', hg, hc⟩
  · exact .inl h0
  · exact .inr ⟨g, cap, cur, rfl, hb', h.typ g cur t (0, 0) hg h5 h3, hc⟩
theorem owns_keep {b : Nat} {w w' : World} {t : TypeId} {z n : Nat} {v : Value} {xs : List Value} (ho : w.ownsRow b t z v n xs) (h : ∀ (g : Nat) (cur : Array Value), v.ownBlock = some g → b ≤ g → w.heap[g]? = some (Obj.cells cur t (0, 0)) → w'.heap[g]? = some (Obj.cells cur t (0, 0))) : w'.ownsRow b t z v n xs := by
  refine ⟨ho.1, ?_⟩
  rcases ho.2 with h0 | ⟨g, cap, cur, rfl, hb', hg, hc⟩
  · exact .inl h0
  · exact .inr ⟨g, cap, cur, rfl, hb', h g cur (by simp [Value.ownBlock]) hb' hg, hc⟩
theorem owns_up {b b' : Nat} {w : World} {t : TypeId} {z n : Nat} {v : Value} {xs : List Value} (ho : w.ownsRow b t z v n xs) (h : b' ≤ b) : w.ownsRow b' t z v n xs := by
  refine ⟨ho.1, ?_⟩
  rcases ho.2 with h0 | ⟨g, cap, cur, rfl, hb', hg, hc⟩
  · exact .inl h0
  · exact .inr ⟨g, cap, cur, rfl, by omega, hg, hc⟩

/-! ### The store -/
def PieceAt (base : Nat) (w : World) (b : List Nat) (v : Value) : Prop := ∃ g cap, v = .slice (some ⟨g, 0, none⟩) b.length cap ∧ w.ownsRow base 5 1 v b.length (vals b)
def Pieces (base : Nat) (w : World) (ps : Ps) (f : Int → Option Value) : Prop := ∀ a : Int, (byId ps a = none → f a = none) ∧ ∀ b, byId ps a = some b → ∃ v, f a = some v ∧ PieceAt base w b v
structure Nums (base : Nat) (w : World) (ps : Ps) (g : Int → Option Value) : Prop where
  no : ∀ c : Int, g c = none → those ps c = []
  yes : ∀ (c : Int) v, g c = some v → w.ownsRow base 3 1 v (those ps c).length (ivals (those ps c))
  apart : ∀ (c c' : Int) v v', c ≠ c' → g c = some v → g c' = some v' → v.ownBlock = none ∨ v.ownBlock ≠ v'.ownBlock
/-- Both maps. -/
def Maps2 (base : Nat) (w : World) (P N : Option Nat) (n : Nat) (ps : Ps) : Prop :=
  (P = none ∧ N = none ∧ ps = []) ∨ ∃ bp bn f g, P = some bp ∧ N = some bn ∧ base ≤ bp ∧ base ≤ bn ∧ bp ≠ bn ∧ MapIs w 3 .i64 bp n f ∧ MapIs w 94 .u32 bn n g ∧ Pieces base w ps f ∧ Nums base w ps g
/-- At q lies a store with these pieces; at most n were put; what it made lies from base on. -/
structure CkAt (base : Nat) (w : World) (q n : Nat) (s : St) : Prop where
  ok : Ok s.ps s.last
  few : s.ps.length ≤ n
  mem : ∃ P N : Option Nat, w.heap[q]? = some (.cells #[.map P, .map N, .int .i64 (s.last : Int)] 81 (0, 0)) ∧ Maps2 base w P N n s.ps
theorem CkAt.lt {base : Nat} {w : World} {q n : Nat} {s : St} (h : CkAt base w q n s) : q < w.heap.size := by
  obtain ⟨P, N, h1, _⟩ := h.mem
  exact lt_of_some h1
theorem PieceAt.keep {base : Nat} {w w' : World} {b : List Nat} {v : Value} (h : PieceAt base w b v) (hk : ∀ (k : Nat) (cs : Array Value) (m : Nat × Nat), base ≤ k → w.heap[k]? = some (Obj.cells cs 5 m) → w'.heap[k]? = some (Obj.cells cs 5 m)) : PieceAt base w' b v := by
  obtain ⟨g, cap, rfl, ho⟩ := h
  exact ⟨g, cap, rfl, owns_keep ho fun k cur _ hb h => hk k cur _ hb h⟩
theorem Pieces.keep {base : Nat} {w w' : World} {ps : Ps} {f : Int → Option Value} (h : Pieces base w ps f) (hk : ∀ (k : Nat) (cs : Array Value) (m : Nat × Nat), base ≤ k → w.heap[k]? = some (Obj.cells cs 5 m) → w'.heap[k]? = some (Obj.cells cs 5 m)) : Pieces base w' ps f :=
  fun a => ⟨(h a).1, fun b hb => by obtain ⟨v, h1, h2⟩ := (h a).2 b hb; exact ⟨v, h1, h2.keep hk⟩⟩
theorem Nums.keep {base : Nat} {w w' : World} {ps : Ps} {g : Int → Option Value} (h : Nums base w ps g) (hk : ∀ (k : Nat) (cs : Array Value) (m : Nat × Nat), base ≤ k → w.heap[k]? = some (Obj.cells cs 3 m) → w'.heap[k]? = some (Obj.cells cs 3 m)) : Nums base w' ps g :=
  ⟨h.no, fun c v hv => owns_keep (h.yes c v hv) fun k cur _ hb h => hk k cur _ hb h, h.apart⟩
theorem Maps2.keep {q base : Nat} {w w' : World} {P N : Option Nat} {n : Nat} {ps : Ps} (h : Maps2 base w P N n ps) (hk : Kept q base w w') : Maps2 base w' P N n ps := by
  rcases h with h | ⟨bp, bn, f, g, h1, h2, h3, h4, h5, h6, h7, h8, h9⟩
  · exact .inl h
  · refine .inr ⟨bp, bn, f, g, h1, h2, h3, h4, h5, h6.keep ?_, h7.keep ?_, h8.keep fun k cs m hb h => hk.keep k _ h (.inr hb) (.inr ⟨cs, 5, m, rfl, by simp⟩), h9.keep fun k cs m hb h => hk.keep k _ h (.inr hb) (.inr ⟨cs, 3, m, rfl, by simp⟩)⟩
    · obtain ⟨es, c, hm⟩ := h6.is_map
      rw [hm]
      exact hk.keep bp _ hm (.inr h3) (.inl ⟨es, c, rfl⟩)
    · obtain ⟨es, c, hm⟩ := h7.is_map
      rw [hm]
      exact hk.keep bn _ hm (.inr h4) (.inl ⟨es, c, rfl⟩)
theorem CkAt.kept {base : Nat} {w w' : World} {q n : Nat} {s : St} (h : CkAt base w q n s) (hk : Kept q base w w') : CkAt base w' q n s := by
  obtain ⟨h1, h2, P, N, h3, h4⟩ := h
  exact ⟨h1, h2, P, N, hk.keep q _ h3 (.inl rfl) (.inr ⟨_, 81, _, rfl, by simp⟩), h4.keep hk⟩
theorem CkAt.below {base : Nat} {w w' : World} {q n : Nat} {s : St} (h : CkAt base w q n s) (hb : Below w.heap.size w w') : CkAt base w' q n s := h.kept (.of_below hb)
theorem CkAt.mono {base : Nat} {w : World} {q n m : Nat} {s : St} (h : CkAt base w q n s) (hm : n ≤ m) : CkAt base w q m s := by
  obtain ⟨h1, h2, P, N, h3, h4⟩ := h
  refine ⟨h1, by omega, P, N, h3, ?_⟩
  rcases h4 with h | ⟨bp, bn, f, g, e1, e2, e3, e4, e5, e6, e7, e8⟩
  · exact .inl h
  · exact .inr ⟨bp, bn, f, g, e1, e2, e3, e4, e5, e6.mono hm, e7.mono hm, e8⟩
/-- One that is new. -/
theorem CkAt.new (base : Nat) (w : World) : CkAt base (w.alloc (.cells #[.map none, .map none, .int .i64 0] 81)) w.heap.size 0 ⟨[], 0⟩ :=
  ⟨ok_nil 0, Nat.zero_le _, none, none, heap_alloc_new w _, .inl ⟨rfl, rfl, rfl⟩⟩
/-- One without maps may have any base. -/
theorem CkAt.rebase {base b : Nat} {w : World} {q : Nat} {l : Nat} (h : CkAt base w q 0 ⟨[], l⟩) (hn : ∀ P N, w.heap[q]? = some (.cells #[.map P, .map N, .int .i64 (l : Int)] 81 (0, 0)) → P = none ∧ N = none) : CkAt b w q 0 ⟨[], l⟩ := by
  obtain ⟨h1, h2, P, N, h3, _⟩ := h
  obtain ⟨rfl, rfl⟩ := hn P N h3
  exact ⟨h1, h2, none, none, h3, .inl ⟨rfl, rfl, rfl⟩⟩
theorem CkAt.cells {base : Nat} {w : World} {q n : Nat} {s : St} (h : CkAt base w q n s) : ∃ P N : Option Nat, w.cell? ⟨q, 0, none⟩ = some (.map P) ∧ w.cell? ⟨q, 1, none⟩ = some (.map N) ∧ w.cell? ⟨q, 2, none⟩ = some (.int .i64 (s.last : Int)) ∧ (∀ i, w.frozen? ⟨q, i, none⟩ = false) ∧ Maps2 base w P N n s.ps ∧ w.heap[q]? = some (.cells #[.map P, .map N, .int .i64 (s.last : Int)] 81 (0, 0)) := by
  obtain ⟨P, N, h3, h4⟩ := h.mem
  refine ⟨P, N, ?_, ?_, ?_, fun i => frozen_of_row w q i _ 81 h3, h4, h3⟩
  · rw [cell_of_row w q 0 _ 81 (0, 0) h3]; rfl
  · rw [cell_of_row w q 1 _ 81 (0, 0) h3]; rfl
  · rw [cell_of_row w q 2 _ 81 (0, 0) h3]; rfl
/-- What lies under a number. -/
theorem zero27 (w : World) : (zeroValue 54).run Try.prog w = .ok (.slice none 0 0) w := by kernel_rfl
theorem zero39 (w : World) : (zeroValue 42).run Try.prog w = .ok (.slice none 0 0) w := by kernel_rfl
theorem i64_wf {a : Int} (h1 : -9223372036854775808 ≤ a) (h2 : a < 9223372036854775808) : (Lit.int .i64 a).wf = true := by
  simp [Lit.wf, IntKind.min, IntKind.max, IntKind.signed, IntKind.bits]
  omega
end Go.Proofs.Ytccahhehbpahoaa
