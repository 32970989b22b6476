/- What the laws lean on: blocks with a body, what a call leaves as it was, how bodies come in. No condition. -/
import Derived.Test.YtccahhehbpahoaaAwake
import Derived.Test.YtccahhehbpahoaaBoK
import Derived.Test.YtccahhehbpahoaaBoL
import Derived.Test.YtccahhehbpahoaaBoM
namespace Go.Proofs.Ytccahhehbpahoaa
open Go.ChangeShapes Go.WideShapes Go.ChangeAt Go.RowKit
set_option maxRecDepth 4000
set_option linter.unusedVariables false
/-- At y lies a body: e is its kind. -/
def Bx (e : TypeId) (w : World) (y : Nat) (z : Int) (v : Value) : Prop := w.heap[y]? = some (.cells #[.int .i64 z, v] e (0, 0))
theorem Bx.lt {e : TypeId} {w : World} {y : Nat} {z : Int} {v : Value} (h : Bx e w y z v) : y < w.heap.size := lt_of_some h
theorem Bx.below {e : TypeId} {w w' : World} {y : Nat} {z : Int} {v : Value} (h : Bx e w y z v) (hb : Below w.heap.size w w') : Bx e w' y z v := (hb.block y h.lt).trans h
theorem Bx.new (e : TypeId) (w : World) (z : Int) (v : Value) : Bx e (w.alloc (.cells #[.int .i64 z, v] e)) w.heap.size z v := heap_alloc_new w _
theorem Bx.cells {e : TypeId} {w : World} {y : Nat} {z : Int} {v : Value} (h : Bx e w y z v) : w.cell? ⟨y, 0, none⟩ = some (.int .i64 z) ∧ w.cell? ⟨y, 1, none⟩ = some v :=
  ⟨by rw [cell_of_row w y 0 _ e (0, 0) h]; rfl, by rw [cell_of_row w y 1 _ e (0, 0) h]; rfl⟩
theorem Bx.set2 {e : TypeId} {w : World} {y : Nat} {z : Int} {v : Value} (h : Bx e w y z v) (z' : Int) (v' : Value) : Bx e ((w.setCell ⟨y, 0, none⟩ (.int .i64 z')).setCell ⟨y, 1, none⟩ v') y z' v' := res_set2 h _ _
theorem Bx.far {e : TypeId} {w : World} {y r : Nat} {z : Int} {v : Value} (h : Bx e w y z v) (hr : y ≠ r) (z' v' : Value) : Bx e ((w.setCell ⟨r, 0, none⟩ z').setCell ⟨r, 1, none⟩ v') y z v := by
  unfold Bx
  rw [Below.heap_setCell _ _ _ _ (by simpa using hr), Below.heap_setCell _ _ _ _ (by simpa using hr)]
  exact h
/-- What a call leaves. -/
structure Left (W w' : World) : Prop where
  cell : ∀ y k, y < W.heap.size → w'.cell? ⟨y, k, none⟩ = W.cell? ⟨y, k, none⟩
  frozen : ∀ y k, y < W.heap.size → w'.frozen? ⟨y, k, none⟩ = W.frozen? ⟨y, k, none⟩
  size : ∀ y, y < W.heap.size → y < w'.heap.size
theorem left_of {W w' : World} (h : Below W.heap.size W w') : Left W w' :=
  ⟨fun y k hy => h.cell (p := ⟨y, k, none⟩) hy, fun y k hy => by unfold World.frozen?; rw [h.block y hy], fun y hy => Nat.lt_of_lt_of_le hy h.size⟩
theorem writeB_len (size : Int) (b : List Pt) (off : Int) (l : List Pt) : (writeB size b off l).2.1.length ≤ 2 * b.length + l.length := by
  unfold writeB
  split
  · split
    · split
      · show b.length ≤ _; omega
      · show (ahead off b ++ (lay off l ++ behind (off + lenP l) b)).length ≤ _
        rw [List.length_append, List.length_append, lay_len]
        have h1 := ahead_len off b
        have h2 := behind_len (off + lenP l) b
        omega
    · exact Nat.zero_le _
  · exact Nat.zero_le _
theorem truncB_len (size : Int) (b : List Pt) (n : Int) : (truncB size b n).2.1.length ≤ b.length := by
  unfold truncB
  split
  · split
    · exact ahead_len n b
    · exact Nat.zero_le _
  · exact Nat.zero_le _
theorem writeB_err (size : Int) (b : List Pt) (off : Int) (l : List Pt) : (writeB size b off l).2.2 = 0 ∨ (writeB size b off l).2.2 = 1 ∨ (writeB size b off l).2.2 = 9 := by
  unfold writeB
  split
  · split
    · split
      · exact .inl rfl
      · exact .inl rfl
    · exact .inr (.inr rfl)
  · exact .inr (.inl rfl)
theorem GaveR.at_ {w' : World} {e : Ending} {r : Int × List Pt × Nat} (h : GaveR w' e r) : ∃ a c, e = .returned (.tuple #[.agg #[.int .i64 r.1, .slice a r.2.1.length c], .int .i64 (r.2.2 : Int)]) ∧ PRow w' a r.2.1 ∧ (a = none → c = 0) := by
  obtain ⟨v, rfl, a, c, rfl, h2, h3⟩ := h
  exact ⟨a, c, rfl, h2, h3⟩
/-- Parts, in whatever world behind. -/
theorem parts_at {w : World} {a : Option Addr} {l : List Pt} {n cap : Nat} (hn : l.length = n) (hr : PRow w a l) (hm : n ≤ 100000) (W : World) (hW : Below w.heap.size w W) :
    Calls Try.prog 12 #[.slice a n cap] W fun e w' => ∃ a' c', e = .returned (.slice a' n c') ∧ PRow w' a' l ∧ (a' = none → c' = 0) ∧ Below W.heap.size W w' := by
  refine (parts_any a l n cap hn (hr.below hW) hm).mono ?_
  rintro e w' ⟨v, rfl, ho, hb⟩
  obtain ⟨a', c', hv, _, _, h2, h3⟩ := ho.row
  rw [hn] at hv
  subst hv
  exact ⟨a', c', rfl, h2, h3, hb⟩

/-! ### How bodies come in -/
open Go.Deep in
theorem nil_of {H : Type} {enc : TypeId × Value → H} {w : World} {fuel : Nat} {len cap : Nat} {x : DataW H × List MemPlace} (h : DataW.trod enc Try.prog w 0 (fun _ => true) true fuel 22 [Value.slice none len cap] = some x) : cap = 0 := by
  rcases open_slice Try.underlying22 h with ⟨hcs, _⟩ | ⟨y, l, c, m, n, D, Pl, hcs, _⟩
  · simp at hcs
    exact hcs.2
  · simp at hcs
/-- A body's value, as it came in. -/
def BIn (w : World) (v : Value) (size : Int) (b : List Pt) : Prop := ∃ a n c, v = .agg #[.int .i64 size, .slice a n c] ∧ b.length = n ∧ PRow w a b ∧ (a = none → c = 0)
open Go.Deep in
theorem body_of {H : Type} {enc : TypeId × Value → H} {w : World} {fuel : Nat} {cs : Array Value} {x : DataW H × List MemPlace} (h : DataW.trod enc Try.prog w 0 (fun _ => true) true fuel 24 cs.toList = some x) : ∃ size b, BIn w (.agg cs) size b := by
  obtain ⟨cs⟩ := cs
  change DataW.trod enc Try.prog w 0 (fun _ => true) true fuel 24 cs = some x at h
  obtain ⟨y0, y1, m, _, hlen, e0, e1⟩ := trod_struct2 Try.underlying24 h
  have hc24 : Try.prog.cellsOf 24 = 2 := by kernel_rfl
  have hc2 : Try.prog.cellsOf 2 = 1 := by kernel_rfl
  rw [hc24] at hlen
  obtain ⟨c0, c1, rfl⟩ : ∃ a b, cs = [a, b] := by
    match cs, hlen with
    | [a, b], _ => exact ⟨a, b, rfl⟩
  dsimp only at e0 e1
  rw [hc2] at e0
  change DataW.trod enc Try.prog w 0 _ true m 2 [c0] = some y0 at e0
  change DataW.trod enc Try.prog w 0 _ true m 22 [c1] = some y1 at e1
  obtain ⟨z0, q0, _, w0⟩ := DataW.trod_int Try.underlying2 e0
  have q0' : c0 = _ := List.head_eq_of_cons_eq q0
  subst q0'
  have hsl : ∃ a n c, c1 = .slice a n c := by
    rcases open_slice Try.underlying22 e1 with ⟨hcs, _⟩ | ⟨y, l, c, m, n, D, Pl, hcs, _⟩
    · simp at hcs
      exact ⟨_, _, _, hcs⟩
    · simp at hcs
      exact ⟨_, _, _, hcs⟩
  obtain ⟨a, n, c, rfl⟩ := hsl
  obtain ⟨l, hl, hr⟩ := prow_of e1
  exact ⟨z0, l, a, n, c, rfl, hl, hr, fun e => by subst e; exact nil_of e1⟩
end Go.Proofs.Ytccahhehbpahoaa
