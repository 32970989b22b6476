/- What Read of a body answers. Condition: at most a hundred thousand parts. -/
import Derived.Test.YtccahhehbpahoaaBoH
import Derived.Laws.OwnMore
import Derived.Deep.RegionHeldLaw
namespace Go.Proofs.Ytccahhehbpahoaa
open Go.ChangeShapes Go.WideShapes Go.ChangeAt Go.RowKit
set_option maxRecDepth 4000
set_option linter.unusedVariables false
attribute [local go_sem ↓] Go.wp_at_zero Go.wp_at_succ
def txt (ps : Ps) (ch : Int) : List Nat := (byId ps ch).getD []
def fitB (ps : Ps) (p : Pt) : Bool := decide (p.pos + p.len ≤ ((txt ps p.ch).length : Int))
def said (ps : Ps) (p : Pt) : List Nat := ((txt ps p.ch).drop p.pos.toNat).take p.len.toNat
def fillP (ps : Ps) (off : Int) : List Pt → List Nat → List Nat
  | [], acc => acc
  | p :: l, acc => fillP ps off l (splice acc (p.off - off).toNat (said ps p))
/-- The bytes that are read, and the error's number. -/
def readB (ps : Ps) (size : Int) (b : List Pt) (off k : Int) : List Nat × Nat :=
  if 0 ≤ off ∧ 0 ≤ k ∧ k ≤ 4096 ∧ mayB size b = true then
    if size ≤ off then ([], 0)
    else if (ahead (min (off + k) size) (behind off b)).all (fitB ps) = true then (fillP ps off (ahead (min (off + k) size) (behind off b)) (List.replicate (min (off + k) size - off).toNat 0), 0) else ([], 13)
  else ([], 1)
theorem readB_arg {ps : Ps} {size : Int} {b : List Pt} {off k : Int} (h : ¬ (0 ≤ off ∧ 0 ≤ k ∧ k ≤ 4096 ∧ mayB size b = true)) : readB ps size b off k = ([], 1) := by unfold readB; rw [if_neg h]
theorem readB_far {ps : Ps} {size : Int} {b : List Pt} {off k : Int} (h : 0 ≤ off ∧ 0 ≤ k ∧ k ≤ 4096 ∧ mayB size b = true) (h1 : size ≤ off) : readB ps size b off k = ([], 0) := by unfold readB; rw [if_pos h, if_pos h1]
theorem readB_near {ps : Ps} {size : Int} {b : List Pt} {off k : Int} (h : 0 ≤ off ∧ 0 ≤ k ∧ k ≤ 4096 ∧ mayB size b = true) (h1 : ¬ size ≤ off) : readB ps size b off k = if (ahead (min (off + k) size) (behind off b)).all (fitB ps) = true then (fillP ps off (ahead (min (off + k) size) (behind off b)) (List.replicate (min (off + k) size - off).toNat 0), 0) else ([], 13) := by unfold readB; rw [if_pos h, if_neg h1]
theorem read_parts {size off to : Int} {b : List Pt} (hb : mayB size b = true) (h0 : 0 ≤ off) (h1 : to ≤ size) : ∀ p ∈ ahead to (behind off b), Piece p ∧ off ≤ p.off ∧ p.off + p.len ≤ to := by
  obtain ⟨a1, a2, a3⟩ := mayB_iff.1 hb
  have hbh := behind_ok (off := off) a3 (Int.le_refl _)
  intro p hp
  have he := ahead_end hbh p hp
  have hal : okB (max 0 off) (max size (max to (max 0 off))) (ahead to (behind off b)) = true ∨ ahead to (behind off b) = [] := by
    by_cases hlt : max 0 off ≤ to
    · have h := ahead_ok (r := []) (S := max size (max to (max 0 off))) hbh hlt rfl (by omega) (by omega)
      rw [List.append_nil] at h
      exact .inl h
    · exact .inr (ahead_nil (okB_low hbh (by omega)))
  rcases hal with h | h
  · obtain ⟨h2, h3, h4⟩ := okB_mem h hp
    exact ⟨h2, by omega, he.2⟩
  · rw [h] at hp; simp at hp
theorem make_bytes (n : Nat) (hn : n ≤ 1000000) (w : World) : (Instr.makeSlice 54 (.int .i64 (n : Int)) (.int .i64 (n : Int))).run Try.prog w = .ok (.slice (some ⟨w.heap.size, 0, none⟩) n n) (w.alloc (.cells (row8 (List.replicate n 0)) 5)) := by
  have h := run_make_row' 54 5 (.int .u8 0) 1 Try.underlying54 info5 rfl .i64 .i64 n (by omega) (by omega) w
  have e : madeCells #[Value.int .u8 0] n = row8 (List.replicate n 0) := by
    apply Array.ext'
    rw [toList_madeCells_one]
    simp [row8, vals]
  rw [e] at h
  exact h
theorem one5 : ((Try.prog.info? 5).map (·.size)) = some 1 := by kernel_rfl
theorem step_copy_region {ops : Array Oper} {op : Oper} {a : Act} {w : World} {K : Act → World → Prop} {Q : Exit → Act → World → Prop} {E : Prop} (hgd : op.guard = none) (d s : Operand)
    (ho : op.op = .call { callee := .builtin .copy, args := #[d, s], argTypes := #[54, 54] }) (g off dLen dCap : Nat) (src : Option Addr) (sLen sCap : Nat)
    (hd : a.eval d = .slice (some ⟨g, off, none⟩) dLen dCap) (hs : a.eval s = .slice src sLen sCap) (w' : World) (n : Nat) (hrun : ∀ ty, (Builtin.copy_ #[54, 54] ty #[.slice (some ⟨g, off, none⟩) dLen dCap, .slice src sLen sCap]).run Try.prog w = .ok (goInt n) w')
    (h : K (a.put op.dst (goInt n)) w') : if Region.wanted op (yielded ops a.tmps) = true then Oper.wp Try.prog op a w K Q else E := by
  have hw : Region.wanted op (yielded ops a.tmps) = true := by simp [Region.wanted, hgd]
  rw [if_pos hw]
  unfold Oper.wp
  simp [execOp, ho, resolve, invoke, builtin, hd, hs, hrun, Result.andThen]
  exact h
theorem run_copy_bytes (w : World) (ty : TypeId) (g off dLen dCap : Nat) (src : Option Addr) (sLen sCap : Nat) (cur : List Value) (t : TypeId) (hg : w.heap[g]? = some (.cells cur.toArray t (0, 0)))
    (b : List Nat) (hn : b.length = Nat.min sLen dLen) (hr : Row w src b) (hfit : off + b.length ≤ cur.length) :
    (Builtin.copy_ #[54, 54] ty #[.slice (some ⟨g, off, none⟩) dLen dCap, .slice src sLen sCap]).run Try.prog w = .ok (goInt b.length) (w.setRow g (splice cur off (vals b)).toArray) := by
  rcases hr.2 with rfl | ⟨b0, o0, rfl, _, hc⟩
  · have h := run_copy_none (P := Try.prog) w 54 54 ty 5 (some ⟨g, off, none⟩) src dLen dCap sLen sCap Try.underlying54 (by first | exact one5 | rw [one5]) (by simpa using hn.symm)
    rw [h]
    simp [splice, vals, setRow_self w g cur.toArray t (0, 0) hg]
  · have h := run_copy_row (P := Try.prog) w 54 54 ty 5 g off dLen dCap ⟨b0, o0, none⟩ sLen sCap cur.toArray t (vals b) Try.underlying54 (by first | exact one5 | (rw [one5]; rfl)) hg (by rw [vals_len]; exact hn) (news_of hc) (by simpa [vals_len] using hfit) (vals_one b)
    rw [h, vals_len]
    simp [splice, vals_len]
theorem vals_splice (a b : List Nat) (o : Nat) : splice (vals a) o (vals b) = vals (splice a o b) := by
  unfold splice vals
  simp
/-- But for the block g a row of parts stays. -/
theorem POwn.only {e : TypeId} {B g : Nat} {w w' : World} {v : Value} {l : List Pt} (h : POwn e B w v l) (hb : Only g none w w') (hg : g < B) : POwn e B w' v l :=
  owns_keep h fun k cur _ hk hc => (hb.block k (lt_of_some hc) (by omega) (by simp)).trans hc
/-- The text that is made, while it is filled. -/
structure Txt (w : World) (g N : Nat) (acc : List Nat) : Prop where
  cur : w.heap[g]? = some (.cells (row8 acc) 5 (0, 0))
  len : acc.length = N
  lt : ∀ x ∈ acc, x < 256
theorem Txt.below {w w' : World} {g N : Nat} {acc : List Nat} (h : Txt w g N acc) (hb : Below w.heap.size w w') : Txt w' g N acc := ⟨(hb.block g (lt_of_some h.cur)).trans h.cur, h.len, h.lt⟩
theorem splice_mem {a b : List Nat} {o : Nat} {x : Nat} (h : x ∈ splice a o b) : x ∈ a ∨ x ∈ b := by
  unfold splice at h
  rcases List.mem_append.1 h with h | h
  · exact .inl (List.mem_of_mem_take h)
  · rcases List.mem_append.1 h with h | h
    · exact .inr h
    · exact .inl (List.mem_of_mem_drop h)
theorem Txt.put {w : World} {g N : Nat} {acc : List Nat} (h : Txt w g N acc) (o : Nat) (b : List Nat) (hb : ∀ x ∈ b, x < 256) (hf : o + b.length ≤ N) : Txt (w.setRow g (splice (vals acc) o (vals b)).toArray) g N (splice acc o b) := by
  refine ⟨?_, ?_, ?_⟩
  · rw [setRow_heap w g _ _ 5 (0, 0) h.cur, vals_splice]; rfl
  · rw [length_splice _ _ _ (by rw [h.len]; exact hf), h.len]
  · intro x hx
    rcases splice_mem hx with hx | hx
    · exact h.lt x hx
    · exact hb x hx
theorem Txt.owns {w : World} {g N B : Nat} {acc : List Nat} (h : Txt w g N acc) (hg : B ≤ g) (hN : N ≤ 1000000) : w.ownsRow B 5 1 (.slice (some ⟨g, 0, none⟩) N N) N (vals acc) := owns_row8 h.cur hg h.len hN
theorem only_setRow {g : Nat} (w : World) (cs : Array Value) : Only g none w (w.setRow g cs) :=
  ⟨rfl, rfl, rfl, by rw [setRow_size]; exact Nat.le_refl _, fun k _ hk _ => setRow_other w g k cs hk⟩
end Go.Proofs.Ytccahhehbpahoaa
