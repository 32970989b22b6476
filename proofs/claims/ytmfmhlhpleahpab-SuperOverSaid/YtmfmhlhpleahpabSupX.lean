/- Two structs that are made one beside another, in whatever order; and what stays while the statement goes on. No condition. -/
import Derived.Test.YtmfmhlhpleahpabSupW
namespace Go.Proofs.Ytmfmhlhpleahpab
open Go.ChangeShapes Go.WideShapes Go.ChangeAt Go.RowKit Pen
section
variable {P : Program} {ops : Array Oper} {Q : Exit → Act → World → Prop} {md : Region.Mode} {S : World → Prop} {fuel : Nat} {listed : Array Bool} {a : Act} {w : World}
theorem wanted_of {o : Oper} (h : o.guard = none) (ys : Nat → Option Bool) : Region.wanted o ys = true := by simp [Region.wanted, h]
theorem ready_alloc {i : Nat} {t : Option Tmp} {o : Oper} (hgd : o.guard = none) (hd : o.dst = t) (ty : TypeId) (hop : o.op = .alloc ty) (v : Value) (w' : World) (hrun : (Instr.alloc ty true (.tuple #[])).run P w = .ok v w') (hS : S w')
    (h : wpAnyH P md ops Q S fuel (listed.setIfInBounds i true) (a.put t v) w') :
    ∀ K' : Act → World → Prop, Shut (∀ a w, S w → (S w → wpAnyH P md ops Q S fuel (listed.setIfInBounds i true) a w) → K' a w) → if Region.wanted o (yielded ops a.tmps) = true then Oper.wp P o a w K' Q else K' (a.put o.dst undef) w := by
  subst hd
  intro K hK
  rw [if_pos (wanted_of hgd _)]
  unfold Oper.wp execOp
  simp only [hop, Sem.run_bind, Sem.run_pure, Result.andThen_ok, hrun]
  exact hK.out _ _ hS (fun _ => h)
theorem below_row {v : World} {base n : Nat} (hb : Below base w v) (hn : base ≤ n) (cs : Array Value) : Below base w (v.setRow n cs) := below_setRow hb hn cs
/-- Two structs made in either order, then filled. -/
theorem two_new (i j k l : Nat) {oi oj ok ol : Oper} (hi : ops[i]? = some oi) (hj : ops[j]? = some oj) (hk : ops[k]? = some ok) (hl : ops[l]? = some ol)
    (r0 : Region.ready md ops listed = [i, j]) (r1 : Region.ready md ops (listed.setIfInBounds i true) = [j]) (r2 : Region.ready md ops (listed.setIfInBounds j true) = [i])
    (hlist : (listed.setIfInBounds j true).setIfInBounds i true = (listed.setIfInBounds i true).setIfInBounds j true)
    (r3 : Region.ready md ops ((listed.setIfInBounds i true).setIfInBounds j true) = [k]) (r4 : Region.ready md ops (((listed.setIfInBounds i true).setIfInBounds j true).setIfInBounds k true) = [l])
    (gi : oi.guard = none) (gj : oj.guard = none) (gk : ok.guard = none) (gl : ol.guard = none) (ty : TypeId) (s7 s8 : Tmp) (x y x' y' : Operand)
    (pi : oi.op = .alloc ty) (pj : oj.op = .alloc ty) (pk : ok.op = .store ty x y) (pl : ol.op = .store ty x' y') (di : oi.dst = some s7) (dj : oj.dst = some s8) (dk : ok.dst = none) (dl : ol.dst = none)
    (Z C7 C8 : Array Value) (v7 v8 : Value) (hal : ∀ W, (Instr.alloc ty true (.tuple #[])).run P W = .ok (.pointer (some ⟨W.heap.size, 0, none⟩)) (W.alloc (.cells Z ty)))
    (hcomm : ∀ p q, (a.put (some s8) q).put (some s7) p = (a.put (some s7) p).put (some s8) q)
    (hev : ∀ p q, ((a.put (some s7) p).put (some s8) q).eval x = p ∧ ((a.put (some s7) p).put (some s8) q).eval y = v7 ∧ ((a.put (some s7) p).put (some s8) q).eval x' = q ∧ ((a.put (some s7) p).put (some s8) q).eval y' = v8)
    (hs7 : ∀ W n, W.heap[n]? = some (.cells Z ty (0, 0)) → (Instr.storeAt ty (.pointer (some ⟨n, 0, none⟩)) v7).run P W = .ok () (W.setRow n C7))
    (hs8 : ∀ W n, W.heap[n]? = some (.cells Z ty (0, 0)) → (Instr.storeAt ty (.pointer (some ⟨n, 0, none⟩)) v8).run P W = .ok () (W.setRow n C8))
    (hS : ∀ W, Below w.heap.size w W → S W)
    (h : ∀ n7 n8 W, W.heap[n7]? = some (.cells C7 ty (0, 0)) → W.heap[n8]? = some (.cells C8 ty (0, 0)) → Below w.heap.size w W → n7 ≠ n8 → w.heap.size ≤ n7 → w.heap.size ≤ n8 →
      wpAnyH P md ops Q S fuel ((((listed.setIfInBounds i true).setIfInBounds j true).setIfInBounds k true).setIfInBounds l true) ((a.put (some s7) (.pointer (some ⟨n7, 0, none⟩))).put (some s8) (.pointer (some ⟨n8, 0, none⟩))) W) :
    wpAnyH P md ops Q S (fuel + 1 + 1 + 1 + 1) listed a w := by
  have fill : ∀ n7 n8 W, W.heap[n7]? = some (.cells Z ty (0, 0)) → W.heap[n8]? = some (.cells Z ty (0, 0)) → Below w.heap.size w W → n7 ≠ n8 → w.heap.size ≤ n7 → w.heap.size ≤ n8 →
      wpAnyH P md ops Q S (fuel + 1 + 1) ((listed.setIfInBounds i true).setIfInBounds j true) ((a.put (some s7) (.pointer (some ⟨n7, 0, none⟩))).put (some s8) (.pointer (some ⟨n8, 0, none⟩))) W := by
    intro n7 n8 W h7 h8 hb hne g7 g8
    obtain ⟨e1, e2, e3, e4⟩ := hev (.pointer (some ⟨n7, 0, none⟩)) (.pointer (some ⟨n8, 0, none⟩))
    have hb7 := below_row hb g7 C7
    have h87 : (W.setRow n7 C7).heap[n8]? = some (.cells Z ty (0, 0)) := (setRow_other W n7 n8 C7 (Ne.symm hne)).trans h8
    have h77 : (W.setRow n7 C7).heap[n7]? = some (.cells C7 ty (0, 0)) := setRow_heap _ _ _ _ _ _ h7
    refine ready_store k none hk dk r3 (wanted_of gk _) ty x y pk (W.setRow n7 C7) (by rw [e1, e2]; exact hs7 W n7 h7) (hS _ hb7) ?_
    refine ready_store l none hl dl r4 (wanted_of gl _) ty x' y' pl ((W.setRow n7 C7).setRow n8 C8) ?_ (hS _ (below_row hb7 g8 C8)) ?_
    · show (Instr.storeAt ty (((a.put (some s7) _).put (some s8) _).eval x') (((a.put (some s7) _).put (some s8) _).eval y')).run P _ = _
      rw [e3, e4]
      exact hs8 _ n8 h87
    · exact h n7 n8 _ ((setRow_other _ n8 n7 C8 hne).trans h77) (setRow_heap _ _ _ _ _ _ h87) (below_row hb7 g8 C8) hne g7 g8
  have b1 : Below w.heap.size w (w.alloc (.cells Z ty)) := (Below.refl _ _).alloc (Nat.le_refl _) _
  have b2 : Below w.heap.size w ((w.alloc (.cells Z ty)).alloc (.cells Z ty)) := b1.alloc (by simp) _
  have z1 : ((w.alloc (.cells Z ty)).alloc (.cells Z ty)).heap[w.heap.size]? = some (.cells Z ty (0, 0)) := heap_alloc2_old _ _ _
  have z2 : ((w.alloc (.cells Z ty)).alloc (.cells Z ty)).heap[w.heap.size + 1]? = some (.cells Z ty (0, 0)) := heap_alloc2_new _ _ _
  have zs : (w.alloc (.cells Z ty)).heap.size = w.heap.size + 1 := by simp
  refine wpAnyH_ready r0 (by simp) (AllReadyH.cons hi ?_ (AllReadyH.cons hj ?_ AllReadyH.nil))
  · refine ready_alloc gi di ty pi _ _ (hal w) (hS _ b1) ?_
    refine wpAnyH_ready r1 (by simp) (AllReadyH.cons hj ?_ AllReadyH.nil)
    refine ready_alloc gj dj ty pj _ _ (hal _) (hS _ b2) ?_
    rw [zs]
    exact fill _ _ _ z1 z2 b2 (by omega) (Nat.le_refl _) (by omega)
  · refine ready_alloc gj dj ty pj _ _ (hal w) (hS _ b1) ?_
    refine wpAnyH_ready r2 (by simp) (AllReadyH.cons hi ?_ AllReadyH.nil)
    refine ready_alloc gi di ty pi _ _ (hal _) (hS _ b2) ?_
    rw [zs, hlist, hcomm]
    exact fill _ _ _ z2 z1 b2 (by omega) (by omega) (Nat.le_refl _)
end
/-- Two slots of the statement's own, at blocks m and n. -/
structure At2 (w : World) (m n : Nat) (x y : Array Value) (v : World) : Prop where
  bx : v.heap[m]? = some (.cells x 27 (0, 0))
  bY : v.heap[n]? = some (.cells y 27 (0, 0))
  low : Below w.heap.size w v
  ne : m ≠ n
  gm : w.heap.size ≤ m
  gn : w.heap.size ≤ n
theorem At2.lt {w v : World} {m n : Nat} {x y : Array Value} (h : At2 w m n x y v) : m < v.heap.size ∧ n < v.heap.size := ⟨(Array.getElem?_eq_some_iff.1 h.bx).1, (Array.getElem?_eq_some_iff.1 h.bY).1⟩
theorem At2.below {w v v' : World} {m n : Nat} {x y : Array Value} (h : At2 w m n x y v) (hb : Below v.heap.size v v') : At2 w m n x y v' :=
  ⟨(hb.block _ h.lt.1).trans h.bx, (hb.block _ h.lt.2).trans h.bY, h.low.trans (hb.mono h.low.size), h.ne, h.gm, h.gn⟩
theorem At2.only {w v v' : World} {m n : Nat} {x y : Array Value} {q p : Nat} (h : At2 w m n x y v) (ho : Only q (some p) v v') (hq : m < q ∧ n < q) (hp : m < p ∧ n < p) : At2 w m n x y v' :=
  ⟨(ho.block _ h.lt.1 (by omega) (by simp; omega)).trans h.bx, (ho.block _ h.lt.2 (by omega) (by simp; omega)).trans h.bY, h.low.trans (ho.low2 (by have := h.gm; omega) (by have := h.gm; omega) h.low.size), h.ne, h.gm, h.gn⟩
/-- Both Numbers are set. -/
theorem At2.set {w v : World} {m n : Nat} {x y : Array Value} (h : At2 w m n x y v) (a b : Value) : At2 w m n (x.setIfInBounds 0 a) (y.setIfInBounds 0 b) ((v.setCell ⟨m, 0, none⟩ a).setCell ⟨n, 0, none⟩ b) := by
  have e1 : (v.setCell ⟨m, 0, none⟩ a).heap[m]? = some (.cells (x.setIfInBounds 0 a) 27 (0, 0)) := heap_setCell_same _ _ _ _ _ _ h.bx
  have e2 : (v.setCell ⟨m, 0, none⟩ a).heap[n]? = some (.cells y 27 (0, 0)) := (Below.heap_setCell _ _ _ _ (Ne.symm h.ne)).trans h.bY
  exact ⟨(Below.heap_setCell _ _ _ _ h.ne).trans e1, heap_setCell_same _ _ _ _ _ _ e2, (h.low.setCell h.gm _).setCell h.gn _, h.ne, h.gm, h.gn⟩
theorem At2.fr {w v : World} {m n : Nat} {x y : Array Value} (h : At2 w m n x y v) : v.frozen? ⟨m, 0, none⟩ = false ∧ v.frozen? ⟨n, 0, none⟩ = false := ⟨frozen_of_row v _ 0 _ 27 h.bx, frozen_of_row v _ 0 _ 27 h.bY⟩
end Go.Proofs.Ytmfmhlhpleahpab
