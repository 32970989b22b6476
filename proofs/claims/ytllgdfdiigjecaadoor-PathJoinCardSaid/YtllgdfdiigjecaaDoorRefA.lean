/- The document's Split. No condition. -/
import Derived.Test.YtllgdfdiigjecaaDoorSplitB
import Derived.Laws.OwnMore
namespace Go.Proofs.YtllgdfdiigjecaaDoor
open Go.RowKit
set_option maxRecDepth 4000
theorem addr_add0 (g : Nat) : (⟨g, 0, none⟩ : Addr).add 0 = ⟨g, 0, none⟩ := by simp [Addr.add]
/-- One element more behind a row of one's own. -/
theorem app_one (W : World) (ts te ty : TypeId) (by_ : Nat) (z : Value) (hts : Tryd.prog.underlying ts = some (.slice te)) (hi : (Tryd.prog.info? te).map (fun i => (i.zero, i.size, i.bytes)) = some (some z, 1, by_)) (hz : z.cells.size = 1) (hby2 : by_ ≤ 100)
    (base : Nat) (v : Value) (n : Nat) (xs : List Value) (hown : W.ownsRow base te 1 v n xs) (y : Nat) (u : Value) (hy : W.heap[y]? = some (.cells #[u] te (0, 0))) (hu : u.oneCell' = true) (hn : n ≤ 1000000) (hbase : base ≤ W.heap.size) :
    ∃ g cap' w', (Builtin.append_ #[ts, ts] ty #[v, .slice (some ⟨y, 0, none⟩) 1 1]).run Tryd.prog W = .ok (.slice (some ⟨g, 0, none⟩) (n + 1) cap') w' ∧ w'.ownsRow base te 1 (.slice (some ⟨g, 0, none⟩) (n + 1) cap') (n + 1) (xs ++ [u]) ∧ W.grownBy w' v.ownBlock ∧ (v.ownBlock = some g ∨ W.heap.size ≤ g) := by
  obtain ⟨i, hi5, hzz⟩ := Option.map_eq_some_iff.1 hi
  simp only [Prod.mk.injEq] at hzz
  have hmul : (n + 1) * by_ ≤ 1000001 * 100 := Nat.mul_le_mul (by omega) hby2
  obtain ⟨g, cap', w', hrun, h2, h3, h4, _⟩ := run_append_lies (P := Tryd.prog) W ts ty base te i z 1 by_ hts hi5 hzz.1 hzz.2.1 hzz.2.2 hz (by omega) v n xs hown ⟨y, 0, none⟩ 1 1 [u] rfl (by
    intro j x hx
    have hj : j = 0 := by
      have := (List.getElem?_eq_some_iff.1 hx).1
      simp at this
      exact this
    subst hj
    simp at hx
    subst hx
    rw [addr_add0, cell_of_row W y 0 _ te (0, 0) hy]
    rfl) (by intro x hx; simp at hx; subst hx; exact hu) (by decide) (by unfold maxLen; omega) (by omega) hbase _ rfl
  exact ⟨g, cap', w', hrun, h2, h3, h4.imp id fun e => by omega⟩
theorem wpList_app_one {ops : Array Oper} {rest : List Oper} {o : Oper} {act : Act} {Q : Exit → Act → World → Prop} (W : World) (ts te : TypeId) (hgd : o.guard = none) (s x : Operand)
    (ho : o.op = .call { callee := .builtin .append, args := #[s, x], argTypes := #[ts, ts] })
    (by_ : Nat) (z : Value) (hts : Tryd.prog.underlying ts = some (.slice te)) (hi : (Tryd.prog.info? te).map (fun i => (i.zero, i.size, i.bytes)) = some (some z, 1, by_)) (hz : z.cells.size = 1) (hby2 : by_ ≤ 100)
    (base : Nat) (v : Value) (n : Nat) (xs : List Value) (hs : act.eval s = v) (hown : W.ownsRow base te 1 v n xs) (y : Nat) (u : Value) (hx : act.eval x = .slice (some ⟨y, 0, none⟩) 1 1) (hy : W.heap[y]? = some (.cells #[u] te (0, 0))) (hu : u.oneCell' = true) (hn : n ≤ 1000000) (hbase : base ≤ W.heap.size)
    (h : ∀ g cap' w', w'.ownsRow base te 1 (.slice (some ⟨g, 0, none⟩) (n + 1) cap') (n + 1) (xs ++ [u]) → W.grownBy w' v.ownBlock → (v.ownBlock = some g ∨ W.heap.size ≤ g) → wpList Tryd.prog ops Q rest (act.put o.dst (.slice (some ⟨g, 0, none⟩) (n + 1) cap')) w') : wpList Tryd.prog ops Q (o :: rest) act W :=
  wpList_plain hgd fun _ hK => by
    obtain ⟨g, cap', w', hrun, h2, h3, h4⟩ := app_one W ts te o.type by_ z hts hi hz hby2 base v n xs hown y u hy hu hn hbase
    unfold Oper.wp execOp
    simp only [ho, resolve, invoke, builtin, Sem.run_bind, Sem.run_pure, Result.andThen_ok, List.map_toArray, List.map_cons, List.map_nil, hs, hx, hrun]
    exact hK _ _ (h g cap' w' h2 h3 h4)
theorem info9 : (Tryd.prog.info? 9).map (fun i => (i.zero, i.size, i.bytes)) = some (some (.string ByteArray.empty), 1, 16) := by kernel_rfl
def sv (p : List Str) : List Value := p.map fun x => .string (mk x)
theorem sv_len (p : List Str) : (sv p).length = p.length := by simp [sv]
theorem sv_get (p : List Str) (i : Nat) (hi : i < p.length) : (sv p)[i]? = some (.string (mk (p.getD i []))) := by
  simp [sv, hi]
/-- A row of texts of the call's own. -/
theorem texts_of {w : World} {base : Nat} {a : Option Addr} {n c : Nat} {p : List Str} (h : w.ownsRow base 9 1 (.slice a n c) p.length (sv p)) : n = p.length ∧ p.length ≤ c ∧ Texts w a p := by
  rcases h.2 with ⟨e, h0⟩ | ⟨g, cap, cur, e, hb, hg, hc, hm, hs, ht⟩
  · simp at e
    exact ⟨by omega, by omega, .inl (List.length_eq_zero_iff.1 h0)⟩
  · simp at e
    obtain ⟨rfl, rfl, rfl⟩ := e
    refine ⟨rfl, hc, .inr ⟨g, 0, rfl, (Array.getElem?_eq_some_iff.1 hg).1, fun i hi => ?_⟩⟩
    rw [Nat.zero_add, cell_of_row w g i cur 9 (0, 0) hg]
    have := sv_get p i hi
    rw [← ht, Nat.mul_one, List.getElem?_take, if_pos hi] at this
    simpa using this
theorem owns_some {w : World} {base : Nat} {v : Value} {p : List Str} (h : w.ownsRow base 9 1 v p.length (sv p)) (hp : p ≠ []) : ∃ g c, v = .slice (some ⟨g, 0, none⟩) p.length c ∧ base ≤ g ∧ g < w.heap.size := by
  rcases h.2 with ⟨e, h0⟩ | ⟨g, cap, cur, e, hb, hg, hc, hm, hs, ht⟩
  · exact absurd (List.length_eq_zero_iff.1 h0) hp
  · exact ⟨g, cap, e, hb, (Array.getElem?_eq_some_iff.1 hg).1⟩
theorem owns_slice {w : World} {base : Nat} {v : Value} {p : List Str} (h : w.ownsRow base 9 1 v p.length (sv p)) : ∃ a c, v = .slice a p.length c := by
  rcases h.2 with ⟨e, h0⟩ | ⟨g, cap, cur, e, hb, hg, hc, hm, hs, ht⟩
  · exact ⟨none, 0, by rw [h0, e]⟩
  · exact ⟨_, cap, e⟩
theorem step_sign (p : List Str) : stepP p 47 = p ++ [[]] := by simp [stepP]
theorem step_other {p : List Str} {b : UInt8} (hb : b ≠ 47) (q : Nat) (hq : p.length = q + 1) : stepP p b = p.set q (p.getD q [] ++ [b]) := by
  have hp : p ≠ [] := by intro e; subst e; cases hq
  obtain ⟨p', x, rfl⟩ : ∃ p' x, p = p' ++ [x] := ⟨p.dropLast, p.getLast hp, (List.dropLast_concat_getLast hp).symm⟩
  have hq' : p'.length = q := by simpa using hq
  subst hq'
  simp [stepP, hb]
theorem sv_set (p : List Str) (q : Nat) (y : Str) : sv (p.set q y) = (sv p).set q (.string (mk y)) := by simp [sv, List.map_set]
theorem sv_snoc (p : List Str) (y : Str) : sv (p ++ [y]) = sv p ++ [.string (mk y)] := by simp [sv]
theorem take_step (s : Str) (i : Nat) (hi : i < s.length) : (s.take (i + 1)).foldl stepP [] = stepP ((s.take i).foldl stepP []) (s.getD i 0) := by
  rw [List.take_add_one, List.getElem?_eq_getElem hi, List.foldl_append, List.getD_eq_getElem?_getD, List.getElem?_eq_getElem hi]
  rfl
theorem fold_len (t : Str) : ∀ p : List Str, (t.foldl stepP p).length ≤ p.length + t.length + 1 ∧ (p ≠ [] → t.foldl stepP p ≠ []) := by
  induction t with
  | nil => intro p; simp
  | cons b t ih =>
    intro p
    have h1 : (stepP p b).length ≤ p.length + 1 ∧ stepP p b ≠ [] := by
      unfold stepP
      split
      · simp
      · simp
    obtain ⟨h2, h3⟩ := ih (stepP p b)
    rw [List.foldl_cons, List.length_cons]
    exact ⟨by omega, fun _ => h3 h1.2⟩
theorem fold_ne (t : Str) (b : UInt8) : (b :: t).foldl stepP [] ≠ [] := by
  rw [List.foldl_cons]
  refine (fold_len t _).2 ?_
  unfold stepP
  split <;> simp
/-- A text within a row of texts is no longer than what was read. -/
theorem fold_short (t : Str) : ∀ p : List Str, (∀ x ∈ p, x.length ≤ 1000) → ∀ x ∈ t.foldl stepP p, x.length ≤ 1000 + t.length := by
  suffices ∀ (K : Nat) (p : List Str), (∀ x ∈ p, x.length ≤ K) → ∀ x ∈ t.foldl stepP p, x.length ≤ K + t.length from fun p h => this 1000 p h
  induction t with
  | nil => intro K p h x hx; simpa using h x hx
  | cons b t ih =>
    intro K p h x hx
    have := ih (K + 1) (stepP p b) (by
      intro y hy
      unfold stepP at hy
      split at hy
      · rcases List.mem_append.1 hy with e | e
        · have := h y e; omega
        · simp at e; subst e; simp
      · rcases List.mem_append.1 hy with e | e
        · have := h y (List.dropLast_subset p e); omega
        · simp at e; subst e
          cases hl : p.getLast? with
          | none => simp
          | some z =>
            have := h z (List.mem_of_getLast? hl)
            simp; omega) x (by simpa using hx)
    simp
    omega
end Go.Proofs.YtllgdfdiigjecaaDoor
