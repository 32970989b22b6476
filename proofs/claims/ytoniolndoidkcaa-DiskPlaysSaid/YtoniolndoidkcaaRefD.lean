/- What New of the document's own disk makes. Condition: at most 776 sectors. -/
import Derived.Test.YtoniolndoidkcaaRefC
namespace Go.Proofs.Ytoniolndoidkcaa
open Go.RowKit
theorem info23 : (Try.prog.info? 23).map (fun i => (i.zero, i.size, i.bytes)) = some (some (.slice none 0 0), 1, 24) := by kernel_rfl
theorem info4 : (Try.prog.info? 4).map (fun i => (i.zero, i.size, i.bytes)) = some (some (.bool false), 1, 1) := by kernel_rfl
/-- A disk that is being made. -/
structure NewSt (base : Nat) (w : World) (q a b c : Nat) (vF vC vD : Value) (fr cr : Nat → Nat) : Prop where
  head : w.heap[q]? = some (.cells #[vF, vC, vD, .int .i64 (-1), .int .i64 0, .bool false] 47 (0, 0))
  oF : w.ownsRow base 23 1 vF a ((List.range a).map fun j => .slice (some ⟨fr j, 0, none⟩) 64 64)
  oC : w.ownsRow base 23 1 vC b ((List.range b).map fun j => .slice (some ⟨cr j, 0, none⟩) 64 64)
  oD : w.ownsRow base 4 1 vD c (List.replicate c (.bool false))
  rf : ∀ j, j < a → RBuf w (fr j) zeros ∧ base ≤ fr j
  rc : ∀ j, j < b → RBuf w (cr j) zeros ∧ base ≤ cr j
  fi : ∀ j k, j < a → k < a → fr j = fr k → j = k
  ci : ∀ j k, j < b → k < b → cr j = cr k → j = k
  fc : ∀ j k, j < a → k < b → fr j ≠ cr k
  ne : ∀ k, vF.ownBlock = some k → vC.ownBlock ≠ some k
  low : base ≤ q ∧ base ≤ w.heap.size
theorem owns_block {w : World} {base n : Nat} {e : TypeId} {v : Value} {xs : List Value} (h : w.ownsRow base e 1 v n xs) (k : Nat) (hk : v.ownBlock = some k) : ∃ cur, w.heap[k]? = some (.cells cur e (0, 0)) ∧ base ≤ k := by
  rcases h.2 with ⟨rfl, _⟩ | ⟨g, cap, cur, rfl, hb, hg, _⟩
  · simp [Value.ownBlock] at hk
  · simp [Value.ownBlock] at hk
    subst hk
    exact ⟨cur, hg, hb⟩
theorem owns_kept {w w' : World} {base n : Nat} {e : TypeId} {v : Value} {xs : List Value} (h : w.ownsRow base e 1 v n xs) (hk : ∀ k, v.ownBlock = some k → w'.heap[k]? = w.heap[k]?) : w'.ownsRow base e 1 v n xs := by
  refine ⟨h.1, ?_⟩
  rcases h.2 with h2 | ⟨g, cap, cur, rfl, hb, hg, hc⟩
  · exact .inl h2
  · exact .inr ⟨g, cap, cur, rfl, hb, (hk g rfl).trans hg, hc⟩
theorem app_one (W : World) (t e : TypeId) (z : Value) (bytes : Nat) (ty : TypeId) (ht : Try.prog.underlying t = some (.slice e)) (hinfo : (Try.prog.info? e).map (fun i => (i.zero, i.size, i.bytes)) = some (some z, 1, bytes)) (hz : z.cells.size = 1) (hby : bytes ≤ 24)
    (base a : Nat) (v x : Value) (xs : List Value) (hown : W.ownsRow base e 1 v a xs) (b : Nat) (hx : W.cell? ⟨b, 0, none⟩ = some x) (h1 : x.oneCell' = true) (ha : a ≤ 776) (hbase : base ≤ W.heap.size) :
    ∃ g cap' w', (Builtin.append_ #[t, t] ty #[v, .slice (some ⟨b, 0, none⟩) 1 1]).run Try.prog W = .ok (.slice (some ⟨g, 0, none⟩) (a + 1) cap') w' ∧ w'.ownsRow base e 1 (.slice (some ⟨g, 0, none⟩) (a + 1) cap') (a + 1) (xs ++ [x]) ∧ W.grownBy w' v.ownBlock ∧ (v.ownBlock = some g ∨ g = W.heap.size) := by
  obtain ⟨i, hi, hzz⟩ := Option.map_eq_some_iff.1 hinfo
  simp only [Prod.mk.injEq] at hzz
  obtain ⟨g, cap', w', hrun, h2, h3, h4, _⟩ := run_append_lies (P := Try.prog) W t ty base e i z 1 bytes ht hi hzz.1 hzz.2.1 hzz.2.2 hz (by decide) v a xs hown ⟨b, 0, none⟩ 1 1 [x] rfl (fun j u hu => by
    rcases j with _ | j
    · simp at hu; subst hu; simpa [Addr.add] using hx
    · simp at hu) (by simpa using h1) (by decide) (by unfold maxLen; omega) (by
      have : (a + 1) * bytes ≤ 777 * 24 := Nat.mul_le_mul (by omega) hby
      omega) hbase _ rfl
  exact ⟨g, cap', w', hrun, h2, h3, h4⟩
theorem range_snoc {α : Type} (f : Nat → α) (a : Nat) (v : α) : (List.range a).map f ++ [v] = (List.range (a + 1)).map (upd f a v) := by
  rw [List.range_succ, List.map_append]
  congr 1
  · apply List.map_congr_left
    intro j hj
    have := List.mem_range.1 hj
    rw [upd_ne _ _ _ _ (by omega)]
  · simp [upd]
/-- d.Flushed = append(d.Flushed, make(..)). -/
theorem newF {base : Nat} {W : World} {q a b c : Nat} {vF vC vD : Value} {fr cr : Nat → Nat} (h : NewSt base W q a b c vF vC vD fr cr) (ha : a ≤ 776) (ty : TypeId) :
    ∃ g cap' w', (Builtin.append_ #[44, 44] ty #[vF, .slice (some ⟨W.heap.size + 1, 0, none⟩) 1 1]).run Try.prog ((W.alloc (.cells (row8 zeros) 5)).alloc (.cells #[.slice (some ⟨W.heap.size, 0, none⟩) 64 64] 23)) = .ok (.slice (some ⟨g, 0, none⟩) (a + 1) cap') w' ∧
      w'.cell? ⟨q, 0, none⟩ = some vF ∧ w'.frozen? ⟨q, 0, none⟩ = false ∧ (∃ vF', NewSt base (w'.setCell ⟨q, 0, none⟩ (.slice (some ⟨g, 0, none⟩) (a + 1) cap')) q (a + 1) b c vF' vC vD (upd fr a W.heap.size) cr) ∧ Below base W (w'.setCell ⟨q, 0, none⟩ (.slice (some ⟨g, 0, none⟩) (a + 1) cap')) := by
  have hb1 := below_one W (.cells (row8 zeros) 5)
  have hb2 := below_one (W.alloc (.cells (row8 zeros) 5)) (.cells #[.slice (some ⟨W.heap.size, 0, none⟩) 64 64] 23)
  have hs1 : (W.alloc (.cells (row8 zeros) 5)).heap.size = W.heap.size + 1 := by simp
  have hbb := hb1.trans (hb2.mono hb1.size)
  have hq : q < W.heap.size := (Array.getElem?_eq_some_iff.1 h.head).1
  have hx : ((W.alloc (.cells (row8 zeros) 5)).alloc (.cells #[.slice (some ⟨W.heap.size, 0, none⟩) 64 64] 23)).cell? ⟨W.heap.size + 1, 0, none⟩ = some (.slice (some ⟨W.heap.size, 0, none⟩) 64 64) := by
    have := heap_alloc_new (W.alloc (.cells (row8 zeros) 5)) (.cells #[.slice (some ⟨W.heap.size, 0, none⟩) 64 64] 23)
    rw [hs1] at this
    rw [cell_of_row _ _ _ _ 23 (0, 0) this]
    rfl
  have hl := h.low
  obtain ⟨g, cap', w', hrun, hown, hgrow, hat⟩ := app_one _ 44 23 (.slice none 0 0) 24 ty Try.underlying44 info23 rfl (by decide) base a vF _ _ (owns_kept h.oF fun k hk => by
    obtain ⟨cur, h1, _⟩ := owns_block h.oF k hk
    exact hbb.block k (Array.getElem?_eq_some_iff.1 h1).1) (W.heap.size + 1) hx rfl ha (by simp; omega)
  have hsz2 : ((W.alloc (.cells (row8 zeros) 5)).alloc (.cells #[.slice (some ⟨W.heap.size, 0, none⟩) 64 64] 23)).heap.size = W.heap.size + 2 := by simp
  have kp : ∀ k, k < W.heap.size + 2 → vF.ownBlock ≠ some k → w'.heap[k]? = ((W.alloc (.cells (row8 zeros) 5)).alloc (.cells #[.slice (some ⟨W.heap.size, 0, none⟩) 64 64] 23)).heap[k]? := fun k hk hne => hgrow.block k (by rw [hsz2]; exact hk) (Ne.symm hne)
  have kW : ∀ k, k < W.heap.size → vF.ownBlock ≠ some k → w'.heap[k]? = W.heap[k]? := fun k hk hne => (kp k (by omega) hne).trans (hbb.block k hk)
  have hqF : vF.ownBlock ≠ some q := fun e => by
    obtain ⟨cur, h1, _⟩ := owns_block h.oF q e
    rw [h.head] at h1
    simp at h1
  have hgq : g ≠ q := by
    rcases hat with h1 | h1
    · intro e; exact hqF (by rw [h1, e])
    · rw [h1, hsz2]; omega
  have hhead := (kW q hq hqF).trans h.head
  have hgT : ∃ cur, w'.heap[g]? = some (.cells cur 23 (0, 0)) ∧ base ≤ g := owns_block hown g rfl
  have kS : ∀ k, k ≠ q → (w'.setCell ⟨q, 0, none⟩ (.slice (some ⟨g, 0, none⟩) (a + 1) cap')).heap[k]? = w'.heap[k]? := fun k hk => Below.heap_setCell _ _ _ k hk
  have rowne : ∀ k l, RBuf W k l → vF.ownBlock ≠ some k ∧ k ≠ q := fun k l hr => by
    obtain ⟨⟨xs, h1, _⟩, _⟩ := hr
    refine ⟨fun e => ?_, fun e => ?_⟩
    · obtain ⟨cur, h2, _⟩ := owns_block h.oF k e
      rw [h1] at h2; simp at h2
    · subst e; rw [h.head] at h1; simp at h1
  have rowk : ∀ k l, RBuf W k l → RBuf (w'.setCell ⟨q, 0, none⟩ (.slice (some ⟨g, 0, none⟩) (a + 1) cap')) k l := fun k l hr => hr.kept ((kS k (rowne k l hr).2).trans (kW k hr.1.lt (rowne k l hr).1))
  refine ⟨g, cap', w', hrun, ?_, frozen_of_row _ _ _ _ 47 hhead, ⟨.slice (some ⟨g, 0, none⟩) (a + 1) cap', ?_⟩, ?_⟩
  · rw [cell_of_row _ _ _ _ 47 (0, 0) hhead]; rfl
  · refine ⟨?_, ?_, ?_, ?_, ?_, ?_, ?_, h.ci, ?_, ?_, ⟨hl.1, by have := hgrow.size; rw [hsz2] at this; simp [World.setCell]; omega⟩⟩
    · rw [heap_setCell_same _ _ _ _ _ _ hhead]; simp
    · have e : ((List.range a).map fun j => Value.slice (some ⟨fr j, 0, none⟩) 64 64) ++ [.slice (some ⟨W.heap.size, 0, none⟩) 64 64] = (List.range (a + 1)).map fun j => .slice (some ⟨upd fr a W.heap.size j, 0, none⟩) 64 64 := by
        rw [range_snoc]
        apply List.map_congr_left
        intro j _
        by_cases e : j = a <;> simp [upd, e]
      rw [← e]
      exact owns_kept hown fun k hk => kS k (by simp [Value.ownBlock] at hk; omega)
    · refine owns_kept h.oC fun k hk => ?_
      obtain ⟨cur, h1, _⟩ := owns_block h.oC k hk
      have h2 : vF.ownBlock ≠ some k := fun e => h.ne k e hk
      exact (kS k (fun e => by subst e; rw [h.head] at h1; simp at h1)).trans (kW k (Array.getElem?_eq_some_iff.1 h1).1 h2)
    · refine owns_kept h.oD fun k hk => ?_
      obtain ⟨cur, h1, _⟩ := owns_block h.oD k hk
      have h2 : vF.ownBlock ≠ some k := fun e => by
        obtain ⟨cur2, h3, _⟩ := owns_block h.oF k e
        rw [h1] at h3; simp at h3
      exact (kS k (fun e => by subst e; rw [h.head] at h1; simp at h1)).trans (kW k (Array.getElem?_eq_some_iff.1 h1).1 h2)
    · intro j hj
      by_cases e : j = a
      · subst e
        rw [upd_self]
        refine ⟨(rbuf_new W zeros bytes_zeros).kept ((kS _ (by omega)).trans ((kp _ (by omega) ?_).trans (hb2.block _ (by simp)))), by omega⟩
        intro e
        obtain ⟨cur, h1, _⟩ := owns_block h.oF _ e
        have := (Array.getElem?_eq_some_iff.1 h1).1
        omega
      · rw [upd_ne _ _ _ _ e]
        have := h.rf j (by omega)
        exact ⟨rowk _ _ this.1, this.2⟩
    · intro j hj
      have := h.rc j hj
      exact ⟨rowk _ _ this.1, this.2⟩
    · intro j k hj hk
      by_cases ej : j = a
      · by_cases ek : k = a
        · omega
        · rw [ej, upd_self, upd_ne _ _ _ _ ek]
          have := (h.rf k (by omega)).1.1.lt
          omega
      · by_cases ek : k = a
        · rw [ek, upd_self, upd_ne _ _ _ _ ej]
          have := (h.rf j (by omega)).1.1.lt
          omega
        · rw [upd_ne _ _ _ _ ej, upd_ne _ _ _ _ ek]
          exact h.fi j k (by omega) (by omega)
    · intro j k hj hk
      by_cases ej : j = a
      · rw [ej, upd_self]
        have := (h.rc k hk).1.1.lt
        omega
      · rw [upd_ne _ _ _ _ ej]
        exact h.fc j k (by omega) hk
    · intro k hk hC
      simp [Value.ownBlock] at hk
      subst hk
      obtain ⟨cur, h1, _⟩ := owns_block h.oC g hC
      rcases hat with h2 | h2
      · exact h.ne g h2 hC
      · have := (Array.getElem?_eq_some_iff.1 h1).1
        rw [hsz2] at h2
        omega
  · refine ⟨hgrow.os, hgrow.tape, hgrow.output, ?_, fun k hk => ?_⟩
    · have := hgrow.size
      rw [hsz2] at this
      simp [World.setCell]
      omega
    · have h2 : vF.ownBlock ≠ some k := fun e => by
        obtain ⟨_, _, h3⟩ := owns_block h.oF k e
        omega
      exact (kS k (by omega)).trans (kW k (by omega) h2)
/-- d.Cached = append(d.Cached, make(..)). -/
theorem newC {base : Nat} {W : World} {q a b c : Nat} {vF vC vD : Value} {fr cr : Nat → Nat} (h : NewSt base W q a b c vF vC vD fr cr) (ha : b ≤ 776) (ty : TypeId) :
    ∃ g cap' w', (Builtin.append_ #[44, 44] ty #[vC, .slice (some ⟨W.heap.size + 1, 0, none⟩) 1 1]).run Try.prog ((W.alloc (.cells (row8 zeros) 5)).alloc (.cells #[.slice (some ⟨W.heap.size, 0, none⟩) 64 64] 23)) = .ok (.slice (some ⟨g, 0, none⟩) (b + 1) cap') w' ∧
      w'.cell? ⟨q, 1, none⟩ = some vC ∧ w'.frozen? ⟨q, 1, none⟩ = false ∧ (∃ vC', NewSt base (w'.setCell ⟨q, 1, none⟩ (.slice (some ⟨g, 0, none⟩) (b + 1) cap')) q a (b + 1) c vF vC' vD fr (upd cr b W.heap.size)) ∧ Below base W (w'.setCell ⟨q, 1, none⟩ (.slice (some ⟨g, 0, none⟩) (b + 1) cap')) := by
  have hb1 := below_one W (.cells (row8 zeros) 5)
  have hb2 := below_one (W.alloc (.cells (row8 zeros) 5)) (.cells #[.slice (some ⟨W.heap.size, 0, none⟩) 64 64] 23)
  have hs1 : (W.alloc (.cells (row8 zeros) 5)).heap.size = W.heap.size + 1 := by simp
  have hbb := hb1.trans (hb2.mono hb1.size)
  have hq : q < W.heap.size := (Array.getElem?_eq_some_iff.1 h.head).1
  have hx : ((W.alloc (.cells (row8 zeros) 5)).alloc (.cells #[.slice (some ⟨W.heap.size, 0, none⟩) 64 64] 23)).cell? ⟨W.heap.size + 1, 0, none⟩ = some (.slice (some ⟨W.heap.size, 0, none⟩) 64 64) := by
    have := heap_alloc_new (W.alloc (.cells (row8 zeros) 5)) (.cells #[.slice (some ⟨W.heap.size, 0, none⟩) 64 64] 23)
    rw [hs1] at this
    rw [cell_of_row _ _ _ _ 23 (0, 0) this]
    rfl
  have hl := h.low
  obtain ⟨g, cap', w', hrun, hown, hgrow, hat⟩ := app_one _ 44 23 (.slice none 0 0) 24 ty Try.underlying44 info23 rfl (by decide) base b vC _ _ (owns_kept h.oC fun k hk => by
    obtain ⟨cur, h1, _⟩ := owns_block h.oC k hk
    exact hbb.block k (Array.getElem?_eq_some_iff.1 h1).1) (W.heap.size + 1) hx rfl ha (by simp; omega)
  have hsz2 : ((W.alloc (.cells (row8 zeros) 5)).alloc (.cells #[.slice (some ⟨W.heap.size, 0, none⟩) 64 64] 23)).heap.size = W.heap.size + 2 := by simp
  have kp : ∀ k, k < W.heap.size + 2 → vC.ownBlock ≠ some k → w'.heap[k]? = ((W.alloc (.cells (row8 zeros) 5)).alloc (.cells #[.slice (some ⟨W.heap.size, 0, none⟩) 64 64] 23)).heap[k]? := fun k hk hne => hgrow.block k (by rw [hsz2]; exact hk) (Ne.symm hne)
  have kW : ∀ k, k < W.heap.size → vC.ownBlock ≠ some k → w'.heap[k]? = W.heap[k]? := fun k hk hne => (kp k (by omega) hne).trans (hbb.block k hk)
  have hqF : vC.ownBlock ≠ some q := fun e => by
    obtain ⟨cur, h1, _⟩ := owns_block h.oC q e
    rw [h.head] at h1
    simp at h1
  have hgq : g ≠ q := by
    rcases hat with h1 | h1
    · intro e; exact hqF (by rw [h1, e])
    · rw [h1, hsz2]; omega
  have hhead := (kW q hq hqF).trans h.head
  have hgT : ∃ cur, w'.heap[g]? = some (.cells cur 23 (0, 0)) ∧ base ≤ g := owns_block hown g rfl
  have kS : ∀ k, k ≠ q → (w'.setCell ⟨q, 1, none⟩ (.slice (some ⟨g, 0, none⟩) (b + 1) cap')).heap[k]? = w'.heap[k]? := fun k hk => Below.heap_setCell _ _ _ k hk
  have rowne : ∀ k l, RBuf W k l → vC.ownBlock ≠ some k ∧ k ≠ q := fun k l hr => by
    obtain ⟨⟨xs, h1, _⟩, _⟩ := hr
    refine ⟨fun e => ?_, fun e => ?_⟩
    · obtain ⟨cur, h2, _⟩ := owns_block h.oC k e
      rw [h1] at h2; simp at h2
    · subst e; rw [h.head] at h1; simp at h1
  have rowk : ∀ k l, RBuf W k l → RBuf (w'.setCell ⟨q, 1, none⟩ (.slice (some ⟨g, 0, none⟩) (b + 1) cap')) k l := fun k l hr => hr.kept ((kS k (rowne k l hr).2).trans (kW k hr.1.lt (rowne k l hr).1))
  refine ⟨g, cap', w', hrun, ?_, frozen_of_row _ _ _ _ 47 hhead, ⟨.slice (some ⟨g, 0, none⟩) (b + 1) cap', ?_⟩, ?_⟩
  · rw [cell_of_row _ _ _ _ 47 (0, 0) hhead]; rfl
  · refine ⟨?_, ?_, ?_, ?_, ?_, ?_, h.fi, ?_, ?_, ?_, ⟨hl.1, by have := hgrow.size; rw [hsz2] at this; simp [World.setCell]; omega⟩⟩
    · rw [heap_setCell_same _ _ _ _ _ _ hhead]; simp
    · refine owns_kept h.oF fun k hk => ?_
      obtain ⟨cur, h1, _⟩ := owns_block h.oF k hk
      have h2 : vC.ownBlock ≠ some k := h.ne k hk
      exact (kS k (fun e => by subst e; rw [h.head] at h1; simp at h1)).trans (kW k (Array.getElem?_eq_some_iff.1 h1).1 h2)
    · have e : ((List.range b).map fun j => Value.slice (some ⟨cr j, 0, none⟩) 64 64) ++ [.slice (some ⟨W.heap.size, 0, none⟩) 64 64] = (List.range (b + 1)).map fun j => .slice (some ⟨upd cr b W.heap.size j, 0, none⟩) 64 64 := by
        rw [range_snoc]
        apply List.map_congr_left
        intro j _
        by_cases e : j = b <;> simp [upd, e]
      rw [← e]
      exact owns_kept hown fun k hk => kS k (by simp [Value.ownBlock] at hk; omega)
    · refine owns_kept h.oD fun k hk => ?_
      obtain ⟨cur, h1, _⟩ := owns_block h.oD k hk
      have h2 : vC.ownBlock ≠ some k := fun e => by
        obtain ⟨cur2, h3, _⟩ := owns_block h.oC k e
        rw [h1] at h3; simp at h3
      exact (kS k (fun e => by subst e; rw [h.head] at h1; simp at h1)).trans (kW k (Array.getElem?_eq_some_iff.1 h1).1 h2)
    · intro j hj
      have := h.rf j hj
      exact ⟨rowk _ _ this.1, this.2⟩
    · intro j hj
      by_cases e : j = b
      · subst e
        rw [upd_self]
        refine ⟨(rbuf_new W zeros bytes_zeros).kept ((kS _ (by omega)).trans ((kp _ (by omega) ?_).trans (hb2.block _ (by simp)))), by omega⟩
        intro e
        obtain ⟨cur, h1, _⟩ := owns_block h.oC _ e
        have := (Array.getElem?_eq_some_iff.1 h1).1
        omega
      · rw [upd_ne _ _ _ _ e]
        have := h.rc j (by omega)
        exact ⟨rowk _ _ this.1, this.2⟩
    · intro j k hj hk
      by_cases ej : j = b
      · by_cases ek : k = b
        · omega
        · rw [ej, upd_self, upd_ne _ _ _ _ ek]
          have := (h.rc k (by omega)).1.1.lt
          omega
      · by_cases ek : k = b
        · rw [ek, upd_self, upd_ne _ _ _ _ ej]
          have := (h.rc j (by omega)).1.1.lt
          omega
        · rw [upd_ne _ _ _ _ ej, upd_ne _ _ _ _ ek]
          exact h.ci j k (by omega) (by omega)
    · intro j k hj hk
      by_cases ek : k = b
      · rw [ek, upd_self]
        have := (h.rf j hj).1.1.lt
        omega
      · rw [upd_ne _ _ _ _ ek]
        exact h.fc j k hj (by omega)
    · intro k hF hC
      simp [Value.ownBlock] at hC
      subst hC
      obtain ⟨cur, h1, _⟩ := owns_block h.oF g hF
      rcases hat with h2 | h2
      · exact h.ne g hF h2
      · have := (Array.getElem?_eq_some_iff.1 h1).1
        rw [hsz2] at h2
        omega
  · refine ⟨hgrow.os, hgrow.tape, hgrow.output, ?_, fun k hk => ?_⟩
    · have := hgrow.size
      rw [hsz2] at this
      simp [World.setCell]
      omega
    · have h2 : vC.ownBlock ≠ some k := fun e => by
        obtain ⟨_, _, h3⟩ := owns_block h.oC k e
        omega
      exact (kS k (by omega)).trans (kW k (by omega) h2)
/-- d.Dirty = append(d.Dirty, false). -/
theorem newD {base : Nat} {W : World} {q a b c : Nat} {vF vC vD : Value} {fr cr : Nat → Nat} (h : NewSt base W q a b c vF vC vD fr cr) (ha : c ≤ 776) (ty : TypeId) :
    ∃ g cap' w', (Builtin.append_ #[45, 45] ty #[vD, .slice (some ⟨W.heap.size, 0, none⟩) 1 1]).run Try.prog (W.alloc (.cells #[.bool false] 4)) = .ok (.slice (some ⟨g, 0, none⟩) (c + 1) cap') w' ∧
      w'.cell? ⟨q, 2, none⟩ = some vD ∧ w'.frozen? ⟨q, 2, none⟩ = false ∧ (∃ vD', NewSt base (w'.setCell ⟨q, 2, none⟩ (.slice (some ⟨g, 0, none⟩) (c + 1) cap')) q a b (c + 1) vF vC vD' fr cr) ∧ Below base W (w'.setCell ⟨q, 2, none⟩ (.slice (some ⟨g, 0, none⟩) (c + 1) cap')) := by
  have hb1 := below_one W (.cells #[.bool false] 4)
  have hs1 : (W.alloc (.cells #[.bool false] 4)).heap.size = W.heap.size + 1 := by simp
  have hq : q < W.heap.size := (Array.getElem?_eq_some_iff.1 h.head).1
  have hx : (W.alloc (.cells #[.bool false] 4)).cell? ⟨W.heap.size, 0, none⟩ = some (.bool false) := by
    rw [cell_of_row _ _ _ _ 4 (0, 0) (heap_alloc_new W (.cells #[.bool false] 4))]
    rfl
  have hl := h.low
  obtain ⟨g, cap', w', hrun, hown, hgrow, hat⟩ := app_one _ 45 4 (.bool false) 1 ty Try.underlying45 info4 rfl (by decide) base c vD _ _ (owns_kept h.oD fun k hk => by
    obtain ⟨cur, h1, _⟩ := owns_block h.oD k hk
    exact hb1.block k (Array.getElem?_eq_some_iff.1 h1).1) W.heap.size hx rfl ha (by simp; omega)
  have kW : ∀ k, k < W.heap.size → vD.ownBlock ≠ some k → w'.heap[k]? = W.heap[k]? := fun k hk hne => (hgrow.block k (by omega) (Ne.symm hne)).trans (hb1.block k hk)
  have tne : ∀ k xs t, W.heap[k]? = some (Obj.cells xs t (0, 0)) → t ≠ 4 → vD.ownBlock ≠ some k := fun k xs t h1 ht e => by
    obtain ⟨cur, h2, _⟩ := owns_block h.oD k e
    rw [h1] at h2
    simp at h2
    exact ht h2.2
  have hhead := (kW q hq (tne q _ _ h.head (by decide))).trans h.head
  have kS : ∀ k, k ≠ q → (w'.setCell ⟨q, 2, none⟩ (.slice (some ⟨g, 0, none⟩) (c + 1) cap')).heap[k]? = w'.heap[k]? := fun k hk => Below.heap_setCell _ _ _ k hk
  have hgq : g ≠ q := by
    rcases hat with h1 | h1
    · intro e; exact tne q _ _ h.head (by decide) (by rw [h1, e])
    · rw [h1, hs1]; omega
  have all : ∀ k xs t, W.heap[k]? = some (Obj.cells xs t (0, 0)) → t ≠ 4 → t ≠ 47 → (w'.setCell ⟨q, 2, none⟩ (.slice (some ⟨g, 0, none⟩) (c + 1) cap')).heap[k]? = W.heap[k]? := fun k xs t h1 h4 h47 => by
    refine (kS k ?_).trans (kW k (Array.getElem?_eq_some_iff.1 h1).1 (tne k _ _ h1 h4))
    intro e
    subst e
    rw [h.head] at h1
    simp at h1
    exact h47 h1.2.symm
  have rowk : ∀ k l, RBuf W k l → RBuf (w'.setCell ⟨q, 2, none⟩ (.slice (some ⟨g, 0, none⟩) (c + 1) cap')) k l := fun k l hr => by
    obtain ⟨xs, h1, _⟩ := hr.1
    exact hr.kept (all k xs 5 h1 (by decide) (by decide))
  refine ⟨g, cap', w', hrun, ?_, frozen_of_row _ _ _ _ 47 hhead, ⟨.slice (some ⟨g, 0, none⟩) (c + 1) cap', ?_⟩, ?_⟩
  · rw [cell_of_row _ _ _ _ 47 (0, 0) hhead]; rfl
  · refine ⟨?_, ?_, ?_, ?_, fun j hj => ⟨rowk _ _ (h.rf j hj).1, (h.rf j hj).2⟩, fun j hj => ⟨rowk _ _ (h.rc j hj).1, (h.rc j hj).2⟩, h.fi, h.ci, h.fc, h.ne, ⟨hl.1, by have := hgrow.size; rw [hs1] at this; simp [World.setCell]; omega⟩⟩
    · rw [heap_setCell_same _ _ _ _ _ _ hhead]; simp
    · refine owns_kept h.oF fun k hk => ?_
      obtain ⟨cur, h1, _⟩ := owns_block h.oF k hk
      exact all k cur 23 h1 (by decide) (by decide)
    · refine owns_kept h.oC fun k hk => ?_
      obtain ⟨cur, h1, _⟩ := owns_block h.oC k hk
      exact all k cur 23 h1 (by decide) (by decide)
    · have e : List.replicate c (Value.bool false) ++ [.bool false] = List.replicate (c + 1) (.bool false) := by rw [List.replicate_succ']
      rw [← e]
      exact owns_kept hown fun k hk => kS k (by simp [Value.ownBlock] at hk; omega)
  · refine ⟨hgrow.os, hgrow.tape, hgrow.output, ?_, fun k hk => ?_⟩
    · have := hgrow.size
      rw [hs1] at this
      simp [World.setCell]
      omega
    · have h2 : vD.ownBlock ≠ some k := fun e => by
        obtain ⟨_, _, h3⟩ := owns_block h.oD k e
        omega
      exact (kS k (by omega)).trans (kW k (by omega) h2)
end Go.Proofs.Ytoniolndoidkcaa
