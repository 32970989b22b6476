/- A store and the law's own list of its pieces, side by side, while the law goes on. No condition. -/
import Derived.Test.YtenjhmlgimnnoaaPlaysM
namespace Go.Proofs.Ytenjhmlgimnnoaa
open Go.ChangeShapes Go.WideShapes Go.ChangeAt Go.RowKit Go.Deep
set_option maxRecDepth 4000
set_option linter.unusedVariables false
structure Pl (w0 w : World) (q i : Nat) (s : St) (v : Value) : Prop where
  ck : CkAt (q + 1) w q (2 * i) s
  row : MRow (q + 1) w v s.ps
  last : s.last ≤ 1099511627776 + i
  bel : Below w0.heap.size w0 w
  low : w0.heap.size ≤ q
  sz : q + 1 ≤ w.heap.size
theorem Pl.below {w0 w w' : World} {q i : Nat} {s : St} {v : Value} (h : Pl w0 w q i s v) (hb : Below w.heap.size w w') : Pl w0 w' q i s v :=
  ⟨h.ck.below hb, h.row.below hb, h.last, h.bel.trans (hb.mono h.bel.size), h.low, Nat.le_trans h.sz hb.size⟩
theorem Pl.more {w0 w : World} {q i : Nat} {s : St} {v : Value} (h : Pl w0 w q i s v) : Pl w0 w q (i + 1) s v :=
  ⟨h.ck.mono (by omega), h.row, by have := h.last; omega, h.bel, h.low, h.sz⟩
theorem Pl.shape {w0 w : World} {q i N c : Nat} {a : Option Addr} {s : St} (h : Pl w0 w q i s (.slice a N c)) : s.ps.length = N ∧ N ≤ c := by
  obtain ⟨a', c', e, hle⟩ := h.row.shape
  simp only [Value.slice.injEq] at e
  omega
/-- What a drawn region may rely on. -/
def SD (w : World) (dd : Nat) (o : Obj) (W : World) : Prop := W.heap[dd]? = some o ∧ Below w.heap.size w W
theorem bytes_app (a b : Ps) : bytes (a ++ b) = bytes a + bytes b := by simp [bytes]
/-- The store was worked on; the list has still what the elder one had. -/
structure Md (w0 w : World) (q i : Nat) (s s' : St) (v : Value) : Prop where
  ck : CkAt (q + 1) w q (2 * i + 2) s'
  row : MRow (q + 1) w v s.ps
  last : s'.last ≤ 1099511627776 + (i + 1)
  bel : Below w0.heap.size w0 w
  low : w0.heap.size ≤ q
  sz : q + 1 ≤ w.heap.size
theorem Pl.work {w0 w w' : World} {q i : Nat} {s s' : St} {v : Value} (h : Pl w0 w q i s v) (hc : Chg q (q + 1) w w') (hk : CkAt (q + 1) w' q (2 * i + 2) s') (hl : s'.last ≤ 1099511627776 + (i + 1)) : Md w0 w' q i s s' v :=
  ⟨hk, h.row.chg hc, hl, h.bel.trans (hc.below h.low (by have := h.low; omega) h.bel.size), h.low, Nat.le_trans h.sz hc.size⟩
theorem Md.below {w0 w w' : World} {q i : Nat} {s s' : St} {v : Value} (h : Md w0 w q i s s' v) (hb : Below w.heap.size w w') : Md w0 w' q i s s' v :=
  ⟨h.ck.below hb, h.row.below hb, h.last, h.bel.trans (hb.mono h.bel.size), h.low, Nat.le_trans h.sz hb.size⟩
theorem Md.same {w0 w : World} {q i : Nat} {s : St} {v : Value} (h : Md w0 w q i s s v) : Pl w0 w q (i + 1) s v := ⟨h.ck, h.row, h.last, h.bel, h.low, h.sz⟩
theorem Md.add {w0 w : World} {q i : Nat} {s s' : St} {v : Value} {id : Nat} {l : List Nat} (h : Md w0 w q i s s' v) (hs : s'.ps = s.ps ++ [(id, l)]) (ty : TypeId) (y N c : Nat) (hN : s.ps.length = N) (hN2 : N ≤ 1000) (hy : w.heap[y]? = some (.cells #[.int .i64 (id : Int), .string (strOf l)] 31 (0, 0))) :
    ∃ g cap' w', (Builtin.append_ #[26, 26] ty #[v, .slice (some ⟨y, 0, none⟩) 1 c]).run Try.prog w = .ok (.slice (some ⟨g, 0, none⟩) (N + 1) cap') w' ∧ Pl w0 w' q (i + 1) s' (.slice (some ⟨g, 0, none⟩) (N + 1) cap') ∧ ∀ (k : Nat) (o : Obj), w.heap[k]? = some o → (∀ cur : Array Value, o ≠ Obj.cells cur 31 (0, 0)) → w'.heap[k]? = some o := by
  subst hN
  obtain ⟨g, cap', w', hrun, hrow, hg⟩ := h.row.app ty y 0 [(id, l)] 1 c rfl (by decide) (fun j u hu => by
    rw [Nat.zero_add, cell_of_row w y j _ 31 (0, 0) hy]
    simpa [mvals] using hu) (by omega) h.sz
  refine ⟨g, cap', w', hrun, ⟨h.ck.kept (kept31 h.row hg), ?_, h.last, ?_, h.low, Nat.le_trans h.sz hg.size⟩, (grown31 h.row hg).1⟩
  · rw [hs]; exact hrow
  · exact h.bel.trans ((below31 h.row hg h.sz).mono (by have := h.low; omega))
/-- One is struck out of the list. -/
theorem Md.cut {w0 w w1 : World} {q i : Nat} {s s' : St} {a : Option Addr} {N cap : Nat} (h : Md w0 w q i s s' (.slice a N cap)) {j : Nat} (hj : j < N) (hN : s.ps.length = N) (hN2 : N ≤ 1000) (hs : s'.ps = s.ps.take j ++ s.ps.drop (j + 1)) (hb : Below w.heap.size w w1) (y : Nat) (hy0 : w.heap.size ≤ y) (hy : w1.heap[y]? = some (.cells #[] 31 (0, 0))) (ty : TypeId) :
    ∃ v1 w2 v2 w3, (Builtin.append_ #[26, 26] ty #[.slice (some ⟨y, 0, none⟩) 0 0, .slice a j cap]).run Try.prog w1 = .ok v1 w2 ∧
      (Builtin.append_ #[26, 26] ty #[v1, .slice (fromB a (j + 1) cap) (N - (j + 1)) (cap - (j + 1))]).run Try.prog w2 = .ok v2 w3 ∧ Pl w0 w3 q (i + 1) s' v2 ∧ Below w.heap.size w w2 ∧ Below w.heap.size w w3 := by
  subst hN
  have h1 := h.below hb
  obtain ⟨g, cap', hv, hglt, _⟩ := h.row.cell hj
  simp only [Value.slice.injEq, true_and] at hv
  obtain ⟨rfl, rfl⟩ := hv
  have hcells : ∀ k (W : World), W.heap[g]? = w.heap[g]? → k < s.ps.length → W.cell? ⟨g, k * 2, none⟩ = some (.int .i64 ((s.ps.getD k (0, [])).1 : Int)) ∧ W.cell? ⟨g, k * 2 + 1, none⟩ = some (.string (strOf (s.ps.getD k (0, [])).2)) := fun k W hW hk => by
    obtain ⟨g', cap', hv, _, e1, e2⟩ := h.row.cell hk
    simp only [Value.slice.injEq, Option.some.injEq, Addr.mk.injEq, true_and, and_true] at hv
    obtain ⟨rfl, rfl⟩ := hv
    exact ⟨(World.cell?_of_block (a := ⟨g, k * 2, none⟩) hW).trans e1, (World.cell?_of_block (a := ⟨g, k * 2 + 1, none⟩) hW).trans e2⟩
  have hpart : ∀ (t d m : Nat) (W : World), W.heap[g]? = w.heap[g]? → t + m ≤ s.ps.length → d = t * 2 → ∀ (k : Nat) u, (mvals ((s.ps.drop t).take m))[k]? = some u → W.cell? ⟨g, d + k, none⟩ = some u := fun t d m W hW ht hd k u hu => by
    subst hd
    have hk := (List.getElem?_eq_some_iff.1 hu).1
    rw [mvals_len] at hk
    have hlen : ((s.ps.drop t).take m).length = m := by simp; omega
    rw [hlen] at hk
    obtain ⟨e, he⟩ : ∃ e, k / 2 = e := ⟨_, rfl⟩
    have hget : ((s.ps.drop t).take m).getD e (0, []) = s.ps.getD (t + e) (0, []) := by
      rw [List.getD_eq_getElem?_getD, List.getD_eq_getElem?_getD, List.getElem?_take, if_pos (by omega), List.getElem?_drop]
    have hm2 := mvals_get ((s.ps.drop t).take m) e (by omega)
    rw [hget] at hm2
    have hc2 := hcells (t + e) W hW (by omega)
    rcases Nat.mod_two_eq_zero_or_one k with h0 | h0
    · have ek : k = e * 2 := by omega
      subst ek
      rw [hm2.1] at hu
      rw [show t * 2 + e * 2 = (t + e) * 2 by omega, hc2.1]
      exact hu
    · have ek : k = e * 2 + 1 := by omega
      subst ek
      rw [hm2.2] at hu
      rw [show t * 2 + (e * 2 + 1) = (t + e) * 2 + 1 by omega, hc2.2]
      exact hu
  have hany : ∀ (W : World) (v1 : Value) (ps qs : Ps) (m c : Nat) (a : Option Addr), MRow w.heap.size W v1 ps → qs.length = m → ps.length + m ≤ 1000 → w.heap.size ≤ W.heap.size → (0 < m → ∃ d, a = some ⟨g, d, none⟩ ∧ ∀ (k : Nat) u, (mvals qs)[k]? = some u → W.cell? ⟨g, d + k, none⟩ = some u) →
      ∃ v2 w2, (Builtin.append_ #[26, 26] ty #[v1, .slice a m c]).run Try.prog W = .ok v2 w2 ∧ MRow w.heap.size w2 v2 (ps ++ qs) ∧ Below w.heap.size W w2 ∧ Kept q (q + 1) W w2 := fun W v1 ps qs m c a hr hm hl hW hd => by
    by_cases h0 : m = 0
    · subst h0
      have : qs = [] := List.length_eq_zero_iff.1 hm
      subst this
      exact ⟨v1, W, hr.app_none ty _ _, by rw [List.append_nil]; exact hr, Below.refl _ _, Kept.refl _ _ _⟩
    · obtain ⟨d, rfl, hc⟩ := hd (by omega)
      obtain ⟨g2, c2, w2, hrun, hrow, hgr⟩ := hr.app ty g d qs m c hm (by omega) hc (by omega) hW
      exact ⟨_, w2, hrun, hrow, below31 hr hgr hW, kept31 hr hgr⟩
  have hrow0 : MRow w.heap.size w1 (.slice (some ⟨y, 0, none⟩) 0 0) [] := ⟨rfl, .inr ⟨y, 0, #[], rfl, hy0, hy, Nat.le_refl _, Nat.zero_le _, rfl, rfl⟩⟩
  have hg1 : w1.heap[g]? = w.heap[g]? := hb.block g hglt
  obtain ⟨v1, w2, hrun1, hr1, hb1, hk1⟩ := hany w1 _ [] (s.ps.take j) j cap (some ⟨g, 0, none⟩) hrow0 (by simp; omega) (by simp; omega) hb.size (fun h0 => ⟨0, rfl, fun k u hu => hpart 0 0 j w1 hg1 (by omega) rfl k u (by simpa using hu)⟩)
  rw [List.nil_append] at hr1
  have hg2 : w2.heap[g]? = w.heap[g]? := (hb1.block g hglt).trans hg1
  have hdl : (s.ps.drop (j + 1)).length = s.ps.length - (j + 1) := by simp
  obtain ⟨v2, w3, hrun2, hr2, hb2, hk2⟩ := hany w2 v1 (s.ps.take j) (s.ps.drop (j + 1)) (s.ps.length - (j + 1)) (cap - (j + 1)) (fromB (some ⟨g, 0, none⟩) (j + 1) cap) hr1 hdl (by simp; omega) (Nat.le_trans hb.size hb1.size) (fun h0 => by
    have hsh := h.row.shape
    obtain ⟨a', c', e, hle⟩ := hsh
    simp only [Value.slice.injEq, true_and] at e
    obtain ⟨_, rfl⟩ := e
    refine ⟨(j + 1) * 2, ?_, fun k u hu => hpart (j + 1) _ (s.ps.length - (j + 1)) w2 hg2 (by omega) rfl k u (by rw [List.take_of_length_le (by simp)]; exact hu)⟩
    unfold fromB
    rw [if_neg (by omega)]
    simp [Addr.add])
  refine ⟨v1, w2, v2, w3, hrun1, hrun2, ⟨(h1.ck.kept hk1).kept hk2, ?_, h.last, ?_, h.low, ?_⟩, hb.trans hb1, hb.trans (hb1.trans hb2)⟩
  · rw [hs]
    exact owns_up hr2 h.sz
  · exact h1.bel.trans ((hb1.trans hb2).mono h.bel.size)
  · exact Nat.le_trans h.sz (Nat.le_trans hb.size (Nat.le_trans hb1.size hb2.size))
end Go.Proofs.Ytenjhmlgimnnoaa
