/- A row of bytes that the law itself has made by append, with whatever room behind it: what lies in it, what a store turns, and that nothing older turns. No condition. -/
import Derived.Test.YtoflfendomampaaBuf
import Derived.Deep.AppendLies
namespace Go.Proofs.Ytoflfendomampaa
open Go.RowKit Crc
def vals (m : List Nat) : List Value := m.map fun n : Nat => Value.int .u8 (n : Int)
structure Own (w wr : World) (g : Nat) (m : List Nat) : Prop where
  at_ : ∃ cur, wr.heap[g]? = some (.cells cur 5 (0, 0)) ∧ cur.toList.take m.length = vals m
  new : w.heap.size ≤ g
  low : Below w.heap.size w wr
  lt : ∀ x ∈ m, x < 256
theorem vals_get (m : List Nat) (i : Nat) (hi : i < m.length) : (vals m)[i]? = some (.int .u8 (m.getD i 0 : Nat)) := by
  simp [vals, hi]
theorem Own.cell {w wr : World} {g : Nat} {m : List Nat} (h : Own w wr g m) (i : Nat) (hi : i < m.length) : wr.cell? ⟨g, i, none⟩ = some (.int .u8 (m.getD i 0 : Nat)) := by
  obtain ⟨cur, h1, h2⟩ := h.at_
  rw [cell_of_row wr _ i _ 5 (0, 0) h1]
  have := vals_get m i hi
  rw [← h2, List.getElem?_take, if_pos hi] at this
  simpa using this
theorem Own.frozen {w wr : World} {g : Nat} {m : List Nat} (h : Own w wr g m) (i : Nat) : wr.frozen? ⟨g, i, none⟩ = false := by
  obtain ⟨cur, h1, h2⟩ := h.at_
  exact frozen_of_row wr _ i _ 5 h1
theorem Own.set {w wr : World} {g : Nat} {m : List Nat} (h : Own w wr g m) (i n : Nat) (hn : n < 256) : Own w (wr.setCell ⟨g, i, none⟩ (.int .u8 (n : Int))) g (m.set i n) where
  at_ := by
    obtain ⟨cur, h1, h2⟩ := h.at_
    refine ⟨cur.setIfInBounds i (.int .u8 (n : Int)), heap_setCell_same _ _ _ _ _ _ h1, ?_⟩
    rw [Array.toList_setIfInBounds, List.length_set, List.take_set, h2]
    simp [vals, List.map_set]
  new := h.new
  low := h.low.setCell h.new _
  lt := by
    intro x hx
    rcases List.mem_or_eq_of_mem_set hx with h1 | h1
    · exact h.lt x h1
    · omega
theorem Own.drew {w wr : World} {g : Nat} {m : List Nat} (h : Own w wr g m) : Own w wr.drew g m := ⟨h.at_, h.new, h.low.drew, h.lt⟩
theorem Own.row {w wr : World} {g : Nat} {m : List Nat} (h : Own w wr g m) : Row wr (some ⟨g, 0, none⟩) m := by
  refine ⟨h.lt, .inr ⟨g, 0, rfl, ?_, fun i hi => by rw [Nat.zero_add]; exact h.cell i hi⟩⟩
  obtain ⟨cur, h1, h2⟩ := h.at_
  exact (Array.getElem?_eq_some_iff.1 h1).1
theorem vals_one (m : List Nat) : ∀ u ∈ vals m, u.oneCell' = true := by
  intro u hu
  obtain ⟨n, _, rfl⟩ := List.mem_map.1 hu
  rfl
theorem vals_len (m : List Nat) : (vals m).length = m.length := by simp [vals]
/-- The cells of a slice that lies in memory, as an append wants them. -/
theorem news_of {w : World} {b off : Nat} {l : List Nat} (h : ∀ i, i < l.length → w.cell? ⟨b, off + i, none⟩ = some (.int .u8 (l.getD i 0 : Nat))) :
    ∀ j u, (vals l)[j]? = some u → w.cell? ((⟨b, off, none⟩ : Addr).add j) = some u := by
  intro j u hu
  have hj : j < l.length := by have := (List.getElem?_eq_some_iff.1 hu).1; rwa [vals_len] at this
  have hadd : (⟨b, off, none⟩ : Addr).add j = ⟨b, off + j, none⟩ := by unfold Addr.add; split <;> simp_all
  rw [hadd, h j hj, ← vals_get l j hj, hu]
theorem own_of {w W' : World} {g cap n : Nat} {m : List Nat} (hn : m.length = n) (h : W'.ownsRow w.heap.size 5 1 (.slice (some ⟨g, 0, none⟩) n cap) n (vals m)) (hb : Below w.heap.size w W') (hm : ∀ x ∈ m, x < 256) : Own w W' g m ∧ n ≤ cap ∧ cap ≤ maxLen := by
  obtain ⟨_, h | ⟨g', cap', cur, hv, h1, h2, h3, h4, h5, h6⟩⟩ := h
  · simp at h
  · simp at hv
    obtain ⟨rfl, rfl⟩ := hv
    refine ⟨⟨⟨cur, h2, ?_⟩, h1, hb, hm⟩, h3, h4⟩
    rw [hn]
    simpa using h6
theorem owns_empty (w W : World) (hW : Below w.heap.size w W) : (W.alloc (.cells #[] 5)).ownsRow w.heap.size 5 1 (.slice (some ⟨W.heap.size, 0, none⟩) 0 0) 0 (vals []) :=
  ⟨rfl, .inr ⟨W.heap.size, 0, #[], rfl, hW.size, heap_alloc_new _ _, Nat.le_refl _, Nat.zero_le _, rfl, rfl⟩⟩
theorem info5' : ∃ i, Try.prog.info? 5 = some i ∧ i.zero = some (.int .u8 0) ∧ i.size = 1 ∧ i.bytes = 1 := by
  obtain ⟨i, hi, hzz⟩ := Option.map_eq_some_iff.1 info5
  simp only [Prod.mk.injEq] at hzz
  exact ⟨i, hi, hzz.1, hzz.2.1, hzz.2.2⟩
theorem ap_own {w W W' : World} {q c0 g cap n1 n2 : Nat} {m1 m2 : List Nat} (hb : Below w.heap.size w W) (hg : W.grownBy W' (Value.slice (some ⟨q, 0, none⟩) n1 c0).ownBlock) (hq : w.heap.size ≤ q)
    (ho : W'.ownsRow w.heap.size 5 1 (.slice (some ⟨g, 0, none⟩) (n1 + n2) cap) (n1 + n2) (vals m1 ++ vals m2)) (h1 : m1.length = n1) (h2 : m2.length = n2) (b1 : ∀ x ∈ m1, x < 256) (b2 : ∀ x ∈ m2, x < 256) :
    Own w W' g (m1 ++ m2) ∧ n1 + n2 ≤ cap ∧ cap ≤ maxLen := by
  have hv : vals m1 ++ vals m2 = vals (m1 ++ m2) := by simp [vals]
  rw [hv] at ho
  refine own_of (by rw [List.length_append, h1, h2]) ho (hb.grown hg hb.size ?_) ?_
  · intro k hk
    simp [Value.ownBlock] at hk
    omega
  · intro x hx
    rcases List.mem_append.1 hx with h | h
    · exact b1 x h
    · exact b2 x h
theorem own_owns {w W : World} {g n cap : Nat} {m : List Nat} (h : Own w W g m) (hn : m.length = n) (hc : n ≤ cap) (hm : cap ≤ maxLen) (hs : ∃ cur, W.heap[g]? = some (.cells cur 5 (0, 0)) ∧ cur.size = cap) : W.ownsRow w.heap.size 5 1 (.slice (some ⟨g, 0, none⟩) n cap) n (vals m) := by
  obtain ⟨cur, h1, h2⟩ := h.at_
  obtain ⟨cur', h1', h3⟩ := hs
  obtain rfl : cur = cur' := by rw [h1] at h1'; simpa using h1'
  exact ⟨by rw [vals_len, hn, Nat.mul_one], .inr ⟨g, cap, cur, rfl, h.new, h1, hc, hm, by rw [h3, Nat.mul_one], by rw [Nat.mul_one, ← hn]; exact h2⟩⟩
end Go.Proofs.Ytoflfendomampaa
