/- An append of whatever bytes lie in memory, none among them, to a row that the call itself owns. Condition: together at most a million bytes. -/
import Derived.Test.YtoflfendomampaaOwn
import Derived.Deep.AppendLies
namespace Go.Proofs.Ytoflfendomampaa
open Go.RowKit Crc
theorem run_append_nil (W : World) (ty : TypeId) (ad : Addr) (n c : Nat) (a : Option Addr) (cap : Nat) (h : n ≤ c) :
    (Builtin.append_ #[22, 22] ty #[.slice (some ad) n c, .slice a 0 cap]).run Try.prog W = .ok (.slice (some ad) n c) W := by
  cases a with
  | none => simp [Builtin.append_, run_underlying Try.underlying22, Builtin.lenOf, Builtin.firstCells, h, storeCells]
  | some x =>
    have hl : (loadCells x 0).run Try.prog W = .ok #[] W := run_loadCells_list (P := Try.prog) W x [] (by simp)
    simp [Builtin.append_, run_underlying Try.underlying22, Builtin.lenOf, Builtin.firstCells, h, storeCells, hl]
theorem grown_refl (w : World) (r : Option Nat) : w.grownBy w r := ⟨rfl, rfl, rfl, Nat.le_refl _, fun _ _ _ => rfl⟩
theorem run_append_row (W : World) (ty : TypeId) (base q n c0 : Nat) (xs : List Value) (hown : W.ownsRow base 5 1 (.slice (some ⟨q, 0, none⟩) n c0) n xs) (a : Option Addr) (l : List Nat) (m cap : Nat) (hr : Row W a l) (hm : l.length = m)
    (hsz : n + m ≤ 1000000) (hbase : base ≤ W.heap.size) :
    ∃ g cap' w', (Builtin.append_ #[22, 22] ty #[.slice (some ⟨q, 0, none⟩) n c0, .slice a m cap]).run Try.prog W = .ok (.slice (some ⟨g, 0, none⟩) (n + m) cap') w' ∧
      w'.ownsRow base 5 1 (.slice (some ⟨g, 0, none⟩) (n + m) cap') (n + m) (xs ++ vals l) ∧ W.grownBy w' (Value.slice (some ⟨q, 0, none⟩) n c0).ownBlock := by
  obtain ⟨i5, hi5, hz5, hs5, hy5⟩ := info5'
  rcases hr.2 with h | ⟨b, off, rfl, _, hc⟩
  · subst h
    obtain rfl : 0 = m := hm
    obtain ⟨_, h | ⟨g', cap', cur, hv, h1, h2, h3, h4, h5, h6⟩⟩ := id hown
    · simp at h
    · simp at hv
      obtain ⟨rfl, rfl⟩ := hv
      exact ⟨q, c0, W, run_append_nil W ty _ n c0 a cap h3, by simpa [vals] using hown, grown_refl _ _⟩
  · by_cases h0 : m = 0
    · subst h0
      obtain rfl : l = [] := List.length_eq_zero_iff.1 hm
      obtain ⟨_, h | ⟨g', cap', cur, hv, h1, h2, h3, h4, h5, h6⟩⟩ := id hown
      · simp at h
      · simp at hv
        obtain ⟨rfl, rfl⟩ := hv
        exact ⟨q, c0, W, run_append_nil W ty _ n c0 _ cap h3, by simpa [vals] using hown, grown_refl _ _⟩
    · obtain ⟨g, cap', w', hrun, h2, h3, _, _⟩ := run_append_lies (P := Try.prog) W 22 ty base 5 i5 (.int .u8 0) 1 1 Try.underlying22 hi5 hz5 hs5 hy5 rfl (by decide) (.slice (some ⟨q, 0, none⟩) n c0) n xs hown ⟨b, off, none⟩ m cap (vals l) (by rw [vals_len, hm, Nat.mul_one]) (news_of hc) (vals_one l) (by omega) (by unfold maxLen; omega) (by omega) hbase _ rfl
      exact ⟨g, cap', w', hrun, h2, h3⟩
/-- At the list of a plain region's operations. -/
theorem wpList_append_row {ops : Array Oper} {rest : List Oper} {o : Oper} {act : Act} {Q : Exit → Act → World → Prop} (w W : World) (hgd : o.guard = none) (s x : Operand)
    (ho : o.op = .call { callee := .builtin .append, args := #[s, x], argTypes := #[22, 22] })
    (q n c0 : Nat) (m1 : List Nat) (hs : act.eval s = .slice (some ⟨q, 0, none⟩) n c0) (hown : W.ownsRow w.heap.size 5 1 (.slice (some ⟨q, 0, none⟩) n c0) n (vals m1))
    (a : Option Addr) (l : List Nat) (m cap : Nat) (hx : act.eval x = .slice a m cap) (hr : Row W a l) (hm : l.length = m) (hn : m1.length = n) (hsz : n + m ≤ 1000000) (hb : Below w.heap.size w W) (hq : w.heap.size ≤ q) (hlt : ∀ x ∈ m1, x < 256)
    (h : ∀ g cap' w', w'.ownsRow w.heap.size 5 1 (.slice (some ⟨g, 0, none⟩) (n + m) cap') (n + m) (vals (m1 ++ l)) → Own w w' g (m1 ++ l) → n + m ≤ cap' → cap' ≤ maxLen → wpList Try.prog ops Q rest (act.put o.dst (.slice (some ⟨g, 0, none⟩) (n + m) cap')) w') : wpList Try.prog ops Q (o :: rest) act W :=
  wpList_plain hgd fun _ hK => by
    obtain ⟨g, cap', w', hrun, h2, h3⟩ := run_append_row W o.type w.heap.size q n c0 (vals m1) hown a l m cap hr hm hsz hb.size
    obtain ⟨k1, k2, k3⟩ := ap_own hb h3 hq h2 hn hm hlt hr.1
    have hv : vals m1 ++ vals l = vals (m1 ++ l) := by simp [vals]
    rw [hv] at h2
    unfold Oper.wp execOp
    simp only [ho, resolve, invoke, builtin, Sem.run_bind, Sem.run_pure, Result.andThen_ok, List.map_toArray, List.map_cons, List.map_nil, hs, hx, hrun]
    exact hK _ _ (h g cap' w' h2 k1 k2 k3)
theorem owns_below {W W' : World} {base q n c : Nat} {xs : List Value} (h : W.ownsRow base 5 1 (.slice (some ⟨q, 0, none⟩) n c) n xs) (hb : Below W.heap.size W W') : W'.ownsRow base 5 1 (.slice (some ⟨q, 0, none⟩) n c) n xs := by
  obtain ⟨h0, h | ⟨g', cap', cur, hv, h1, h2, h3, h4, h5, h6⟩⟩ := h
  · simp at h
  · have hlt : g' < W.heap.size := (Array.getElem?_eq_some_iff.1 h2).1
    exact ⟨h0, .inr ⟨g', cap', cur, hv, h1, (hb.block g' hlt).trans h2, h3, h4, h5, h6⟩⟩
theorem Own.below {w W W' : World} {g : Nat} {m : List Nat} (h : Own w W g m) (hb : Below W.heap.size W W') : Own w W' g m where
  at_ := by
    obtain ⟨cur, h1, h2⟩ := h.at_
    exact ⟨cur, (hb.block g (Array.getElem?_eq_some_iff.1 h1).1).trans h1, h2⟩
  new := h.new
  low := h.low.trans (hb.mono h.low.size)
  lt := h.lt
end Go.Proofs.Ytoflfendomampaa
