/- Three structs that are made one beside another, in whatever order, each filled with one value. No condition. -/
import Derived.Test.YteohjfhflodklaaKnC
namespace Go.Proofs.Yteohjfhflodklaa
open Go.RowKit Pen
set_option maxRecDepth 4000
set_option linter.unusedVariables false
section
variable {P : Program} {ops : Array Oper} {Q : Exit → Act → World → Prop} {md : Region.Mode} {S : World → Prop} {fuel : Nat} {listed : Array Bool} {a : Act} {w : World}
theorem wanted_of {o : Oper} (h : o.guard = none) (ys : Nat → Option Bool) : Region.wanted o ys = true := by simp [Region.wanted, h]
theorem ready_alloc {i : Nat} {t : Option Tmp} {o : Oper} (hgd : o.guard = none) (hd : o.dst = t) (ty : TypeId) (hop : o.op = .alloc ty) (v : Value) (w' : World) (hrun : (Instr.alloc ty true (.tuple #[])).run P w = .ok v w') (hS : S w')
    (h : wpAnyH P md ops Q S fuel (listed.setIfInBounds i true) (a.put t v) w') :
    ∀ K' : Act → World → Prop, Shut (∀ a w, S w → (S w → wpAnyH P md ops Q S fuel (listed.setIfInBounds i true) a w) → K' a w) → if Region.wanted o (yielded ops a.tmps) = true then Oper.wp P o a w K' Q else K' (a.put o.dst undef) w := by
  subst hd
  intro K hK
  rw [if_pos (wanted_of hgd _)]
  unfold Oper.wp execOp
  simp only [hop, Sem.run_bind, Sem.run_pure, Result.andThen_ok, hrun]
  exact hK.out _ _ hS (fun _ => h)
theorem ready_fill {i : Nat} {o : Oper} (hgd : o.guard = none) (hd : o.dst = none) (ty : TypeId) (x y : Operand) (hop : o.op = .store ty x y) (p v : Value) (ex : a.eval x = p) (ey : a.eval y = v) (w' : World) (hrun : (Instr.storeAt ty p v).run P w = .ok () w') (hS : S w')
    (h : wpAnyH P md ops Q S fuel (listed.setIfInBounds i true) a w') :
    ∀ K' : Act → World → Prop, Shut (∀ a w, S w → (S w → wpAnyH P md ops Q S fuel (listed.setIfInBounds i true) a w) → K' a w) → if Region.wanted o (yielded ops a.tmps) = true then Oper.wp P o a w K' Q else K' (a.put o.dst undef) w := by
  intro K hK
  rw [if_pos (wanted_of hgd _)]
  unfold Oper.wp execOp
  simp only [hop, Sem.run_bind, Sem.run_pure, Result.andThen_ok, ex, ey, hrun]
  have h' : wpAnyH P md ops Q S fuel (listed.setIfInBounds i true) (a.put o.dst undef) w' := by rw [hd]; exact h
  exact hK.out _ _ hS (fun _ => h')
end
/-- One of the three: not there, made, filled. -/
abbrev Sl := Option (Nat × Bool)
abbrev Sl.no : Sl := none
abbrev Sl.made (n : Nat) : Sl := some (n, false)
abbrev Sl.full (n : Nat) : Sl := some (n, true)
def Sl.a : Sl → Bool
  | none => false
  | some _ => true
def Sl.f : Sl → Bool
  | some (_, true) => true
  | _ => false
def Sl.v : Sl → Value
  | none => undef
  | some (n, _) => .pointer (some ⟨n, 0, none⟩)
def Sl.rem : Sl → Nat
  | none => 2
  | some (_, false) => 1
  | some (_, true) => 0
def Sl.at_ (s : Sl) (n : Nat) : Prop := s = Sl.made n ∨ s = Sl.full n
def upd (s : Nat → Sl) (i : Nat) (x : Sl) : Nat → Sl := fun j => if j = i then x else s j
theorem upd_same (s : Nat → Sl) (i : Nat) (x : Sl) : upd s i x i = x := by simp [upd]
theorem upd_other (s : Nat → Sl) {i j : Nat} (x : Sl) (h : j ≠ i) : upd s i x j = s j := by simp [upd, h]
def listedOf (s : Nat → Sl) : Array Bool := #[true, true, true, (s 0).a, (s 1).a, (s 2).a, (s 0).f, (s 1).f, (s 2).f]
def actOf (t : Array Value) (s : Nat → Sl) : Act := { tmps := ((t.setIfInBounds 10 (s 0).v).setIfInBounds 11 (s 1).v).setIfInBounds 12 (s 2).v, defers := [] }
def readyOf (a0 f0 a1 f1 a2 f2 : Bool) : List Nat := (if a0 then [] else [3]) ++ (if a1 then [] else [4]) ++ (if a2 then [] else [5]) ++ (if a0 && a1 && a2 && !f0 then [6] else []) ++ (if a0 && a1 && a2 && f0 && !f1 then [7] else []) ++ (if a0 && a1 && a2 && f0 && f1 && !f2 then [8] else [])
structure Three (base : Nat) (w0 : World) (ty : TypeId) (Z C : Array Value) (s : Nat → Sl) (W : World) : Prop where
  made : ∀ i n, i < 3 → s i = Sl.made n → W.heap[n]? = some (.cells Z ty (0, 0))
  full : ∀ i n, i < 3 → s i = Sl.full n → W.heap[n]? = some (.cells C ty (0, 0))
  new : ∀ i n, i < 3 → (s i).at_ n → base ≤ n
  apart : ∀ i j n, i < 3 → j < 3 → i ≠ j → (s i).at_ n → ¬ (s j).at_ n
  low : Below base w0 W
theorem Three.lt {base : Nat} {w0 : World} {ty : TypeId} {Z C : Array Value} {s : Nat → Sl} {W : World} (h : Three base w0 ty Z C s W) {i n : Nat} (hi : i < 3) (hn : (s i).at_ n) : n < W.heap.size := by
  rcases hn with e | e
  · exact (Array.getElem?_eq_some_iff.1 (h.made i n hi e)).1
  · exact (Array.getElem?_eq_some_iff.1 (h.full i n hi e)).1
/-- One more is made. -/
theorem Three.alloc {base : Nat} {w0 : World} {ty : TypeId} {Z C : Array Value} {s : Nat → Sl} {W : World} (h : Three base w0 ty Z C s W) (hb : base ≤ W.heap.size) (i : Nat) (hi : i < 3) : Three base w0 ty Z C (upd s i (Sl.made W.heap.size)) (W.alloc (.cells Z ty)) := by
  have hk : ∀ {n : Nat} {c : Array Value}, W.heap[n]? = some (.cells c ty (0, 0)) → (W.alloc (.cells Z ty)).heap[n]? = some (.cells c ty (0, 0)) := fun {n c} e => (((Below.refl _ W).alloc (Nat.le_refl _) (.cells Z ty)).block n (Array.getElem?_eq_some_iff.1 e).1).trans e
  have hat : ∀ {j n : Nat}, (upd s i (Sl.made W.heap.size) j).at_ n → j = i ∧ n = W.heap.size ∨ j ≠ i ∧ (s j).at_ n := fun {j n} e => by
    by_cases hj : j = i
    · subst hj
      rw [upd_same] at e
      rcases e with e | e
      · cases e; exact .inl ⟨rfl, rfl⟩
      · cases e
    · rw [upd_other _ _ hj] at e; exact .inr ⟨hj, e⟩
  refine ⟨fun j n hj e => ?_, fun j n hj e => ?_, fun j n hj e => ?_, fun j k n hj hk2 hjk e e2 => ?_, h.low.alloc hb _⟩
  · by_cases hji : j = i
    · subst hji; rw [upd_same] at e; cases e; exact heap_alloc_new W _
    · rw [upd_other _ _ hji] at e; exact hk (h.made j n hj e)
  · by_cases hji : j = i
    · subst hji; rw [upd_same] at e; cases e
    · rw [upd_other _ _ hji] at e; exact hk (h.full j n hj e)
  · rcases hat e with ⟨_, rfl⟩ | ⟨_, e⟩
    · exact hb
    · exact h.new j n hj e
  · rcases hat e with ⟨h1, h2⟩ | ⟨_, e3⟩
    · rcases hat e2 with ⟨h3, _⟩ | ⟨_, e4⟩
      · exact hjk (h1.trans h3.symm)
      · have := h.lt hk2 e4; omega
    · rcases hat e2 with ⟨_, h2⟩ | ⟨_, e4⟩
      · have := h.lt hj e3; omega
      · exact h.apart j k n hj hk2 hjk e3 e4
/-- One more is filled. -/
theorem Three.fill {base : Nat} {w0 : World} {ty : TypeId} {Z C : Array Value} {s : Nat → Sl} {W : World} (h : Three base w0 ty Z C s W) (i n : Nat) (hi : i < 3) (hs : s i = Sl.made n) : Three base w0 ty Z C (upd s i (Sl.full n)) (W.setRow n C) := by
  have hat : ∀ {j m : Nat}, (upd s i (Sl.full n) j).at_ m → (s j).at_ m := fun {j m} e => by
    by_cases hj : j = i
    · subst hj
      rw [upd_same] at e
      rcases e with e | e
      · cases e
      · cases e; exact .inl hs
    · rwa [upd_other _ _ hj] at e
  have hne : ∀ {j m : Nat}, j < 3 → j ≠ i → (s j).at_ m → m ≠ n := fun {j m} hj hji e e2 => by
    subst e2
    exact h.apart i j m hi hj (Ne.symm hji) (.inl hs) e
  have hbn := setRow_but W n C
  refine ⟨fun j m hj e => ?_, fun j m hj e => ?_, fun j m hj e => h.new j m hj (hat e), fun j k m hj hk hjk e e2 => h.apart j k m hj hk hjk (hat e) (hat e2), ?_⟩
  · by_cases hji : j = i
    · subst hji; rw [upd_same] at e; cases e
    · rw [upd_other _ _ hji] at e
      have h1 := h.made j m hj e
      exact (hbn.block m (Array.getElem?_eq_some_iff.1 h1).1 (hne hj hji (.inl e))).trans h1
  · by_cases hji : j = i
    · subst hji; rw [upd_same] at e; cases e
      exact setRow_heap _ _ _ _ _ _ (h.made j n hj hs)
    · rw [upd_other _ _ hji] at e
      have h1 := h.full j m hj e
      exact (hbn.block m (Array.getElem?_eq_some_iff.1 h1).1 (hne hj hji (.inr e))).trans h1
  · exact h.low.trans (hbn.below (fun k e => by subst e; exact h.new i k hi (.inl hs)) (by have := h.new i n hi (.inl hs); have := h.lt hi (.inl hs); omega))
theorem act_put (t : Array Value) (s : Nat → Sl) (i n : Nat) (hi : i < 3) : (actOf t s).put (some (10 + i)) (.pointer (some ⟨n, 0, none⟩)) = actOf t (upd s i (Sl.made n)) := by
  have : i = 0 ∨ i = 1 ∨ i = 2 := by omega
  rcases this with rfl | rfl | rfl
  · show ({ tmps := _, defers := _ } : Act) = _
    simp only [actOf, upd_same, upd_other s (i := 0) (j := 1) _ (by decide), upd_other s (i := 0) (j := 2) _ (by decide)]
    rw [Array.setIfInBounds_comm _ _ (by decide : (12 : Nat) ≠ 10 + 0), Array.setIfInBounds_comm _ _ (by decide : (11 : Nat) ≠ 10 + 0), Array.setIfInBounds_setIfInBounds]
    rfl
  · show ({ tmps := _, defers := _ } : Act) = _
    simp only [actOf, upd_same, upd_other s (i := 1) (j := 0) _ (by decide), upd_other s (i := 1) (j := 2) _ (by decide)]
    rw [Array.setIfInBounds_comm _ _ (by decide : (12 : Nat) ≠ 10 + 1), Array.setIfInBounds_setIfInBounds]
    rfl
  · show ({ tmps := _, defers := _ } : Act) = _
    simp only [actOf, upd_same, upd_other s (i := 2) (j := 0) _ (by decide), upd_other s (i := 2) (j := 1) _ (by decide)]
    rw [Array.setIfInBounds_setIfInBounds]
    rfl
theorem act_fill (t : Array Value) (s : Nat → Sl) (i n : Nat) (hi : i < 3) (hs : s i = Sl.made n) : actOf t s = actOf t (upd s i (Sl.full n)) := by
  have hv : ∀ j, (upd s i (Sl.full n) j).v = (s j).v := fun j => by
    by_cases hj : j = i
    · subst hj; rw [upd_same, hs]; rfl
    · rw [upd_other _ _ hj]
  unfold actOf
  rw [hv, hv, hv]
theorem listed_alloc (s : Nat → Sl) (i n : Nat) (hi : i < 3) (hs : s i = Sl.no) : (listedOf s).setIfInBounds (3 + i) true = listedOf (upd s i (Sl.made n)) := by
  have : i = 0 ∨ i = 1 ∨ i = 2 := by omega
  rcases this with rfl | rfl | rfl <;> simp [listedOf, upd, Sl.a, Sl.f, hs]
theorem listed_fill (s : Nat → Sl) (i n : Nat) (hi : i < 3) (hs : s i = Sl.made n) : (listedOf s).setIfInBounds (6 + i) true = listedOf (upd s i (Sl.full n)) := by
  have : i = 0 ∨ i = 1 ∨ i = 2 := by omega
  rcases this with rfl | rfl | rfl <;> simp [listedOf, upd, Sl.a, Sl.f, hs]
def remOf (s : Nat → Sl) : Nat := (s 0).rem + (s 1).rem + (s 2).rem
theorem rem_upd (s : Nat → Sl) (i : Nat) (hi : i < 3) (x : Sl) (h : (s i).rem = x.rem + 1) : remOf s = remOf (upd s i x) + 1 := by
  have : i = 0 ∨ i = 1 ∨ i = 2 := by omega
  rcases this with rfl | rfl | rfl <;> simp [remOf, upd] <;> omega
/-- The region, from wherever it stands. -/
theorem three_new {P : Program} {ops : Array Oper} {Q : Exit → Act → World → Prop} {S : World → Prop} {F base : Nat} {w0 : World} (ty : TypeId) (Z C : Array Value) (v : Value) (t : Array Value) (ht : 64 < t.size)
    {o3 o4 o5 o6 o7 o8 : Oper} (h3 : ops[3]? = some o3) (h4 : ops[4]? = some o4) (h5 : ops[5]? = some o5) (h6 : ops[6]? = some o6) (h7 : ops[7]? = some o7) (h8 : ops[8]? = some o8)
    (g3 : o3.guard = none) (g4 : o4.guard = none) (g5 : o5.guard = none) (g6 : o6.guard = none) (g7 : o7.guard = none) (g8 : o8.guard = none)
    (d3 : o3.dst = some 10) (d4 : o4.dst = some 11) (d5 : o5.dst = some 12) (d6 : o6.dst = none) (d7 : o7.dst = none) (d8 : o8.dst = none)
    (p3 : o3.op = .alloc ty) (p4 : o4.op = .alloc ty) (p5 : o5.op = .alloc ty) (y6 y7 y8 : Operand) (p6 : o6.op = .store ty (.tmp 10) y6) (p7 : o7.op = .store ty (.tmp 11) y7) (p8 : o8.op = .store ty (.tmp 12) y8)
    (ev : ∀ s, (actOf t s).eval y6 = v ∧ (actOf t s).eval y7 = v ∧ (actOf t s).eval y8 = v)
    (hr : ∀ a0 f0 a1 f1 a2 f2 : Bool, Region.ready .any ops #[true, true, true, a0, a1, a2, f0, f1, f2] = readyOf a0 f0 a1 f1 a2 f2)
    (hal : ∀ W, (Instr.alloc ty true (.tuple #[])).run P W = .ok (.pointer (some ⟨W.heap.size, 0, none⟩)) (W.alloc (.cells Z ty)))
    (hst : ∀ W n, W.heap[n]? = some (.cells Z ty (0, 0)) → (Instr.storeAt ty (.pointer (some ⟨n, 0, none⟩)) v).run P W = .ok () (W.setRow n C))
    (hS : ∀ W, Below base w0 W → S W) (hbase : base ≤ w0.heap.size)
    (hend : ∀ n0 n1 n2 s W, s 0 = Sl.full n0 → s 1 = Sl.full n1 → s 2 = Sl.full n2 → Three base w0 ty Z C s W → wpAnyH P .any ops Q S F (listedOf s) (actOf t s) W) :
    ∀ r s W, remOf s = r → Three base w0 ty Z C s W → wpAnyH P .any ops Q S (F + r) (listedOf s) (actOf t s) W := by
  intro r
  induction r with
  | zero =>
    intro s W hrem hT
    rcases h0 : s 0 with _ | ⟨n0, _ | _⟩
    · simp [remOf, h0, Sl.rem] at hrem
    · simp [remOf, h0, Sl.rem] at hrem
    rcases h1 : s 1 with _ | ⟨n1, _ | _⟩
    · simp [remOf, h0, h1, Sl.rem] at hrem
    · simp [remOf, h0, h1, Sl.rem] at hrem
    rcases h2 : s 2 with _ | ⟨n2, _ | _⟩
    · simp [remOf, h0, h1, h2, Sl.rem] at hrem
    · simp [remOf, h0, h1, h2, Sl.rem] at hrem
    exact hend n0 n1 n2 s W h0 h1 h2 hT
  | succ r ih =>
    intro s W hrem hT
    have hbW : base ≤ W.heap.size := Nat.le_trans hbase hT.low.size
    have mk_ : ∀ i o, i < 3 → ops[3 + i]? = some o → o.guard = none → o.dst = some (10 + i) → o.op = .alloc ty → s i = Sl.no → AllReadyH P .any ops Q S (F + r) (listedOf s) (actOf t s) W [3 + i] := by
      intro i o hi ho hg hd hp hs
      refine AllReadyH.cons ho (ready_alloc hg hd ty hp _ _ (hal W) (hS _ (hT.alloc hbW i hi).low) ?_) AllReadyH.nil
      rw [listed_alloc s i W.heap.size hi hs, act_put t s i _ hi]
      exact ih _ _ (by have := rem_upd s i hi (Sl.made W.heap.size) (by rw [hs]; rfl); omega) (hT.alloc hbW i hi)
    have fill_ : ∀ i n o y, i < 3 → ops[6 + i]? = some o → o.guard = none → o.dst = none → o.op = .store ty (.tmp (10 + i)) y → (actOf t s).eval y = v → (actOf t s).eval (.tmp (10 + i)) = .pointer (some ⟨n, 0, none⟩) → s i = Sl.made n → AllReadyH P .any ops Q S (F + r) (listedOf s) (actOf t s) W [6 + i] := by
      intro i n o y hi ho hg hd hp hy hx hs
      refine AllReadyH.cons ho (ready_fill hg hd ty _ _ hp _ _ hx hy _ (hst W n (hT.made i n hi hs)) (hS _ (hT.fill i n hi hs).low) ?_) AllReadyH.nil
      rw [listed_fill s i n hi hs, act_fill t s i n hi hs]
      exact ih _ _ (by have := rem_upd s i hi (Sl.full n) (by rw [hs]; rfl); omega) (hT.fill i n hi hs)
    have hx : ∀ i n, i < 3 → s i = Sl.made n → (actOf t s).eval (.tmp (10 + i)) = .pointer (some ⟨n, 0, none⟩) := by
      intro i n hi hs
      have : i = 0 ∨ i = 1 ∨ i = 2 := by omega
      have a10 : 10 < t.size := by omega
      have a11 : 11 < t.size := by omega
      have a12 : 12 < t.size := by omega
      rcases this with rfl | rfl | rfl <;> simp [actOf, Act.eval, hs, Sl.v, Array.getD_eq_getD_getElem?, a10, a11, a12]
    obtain ⟨e6, e7, e8⟩ := ev s
    have hrd := hr (s 0).a (s 0).f (s 1).a (s 1).f (s 2).a (s 2).f
    have hne : readyOf (s 0).a (s 0).f (s 1).a (s 1).f (s 2).a (s 2).f ≠ [] := by
      intro e
      have hrem2 : 0 < (s 0).rem + (s 1).rem + (s 2).rem := by unfold remOf at hrem; omega
      revert e hrem2
      rcases s 0 with _ | ⟨x0, _ | _⟩ <;> rcases s 1 with _ | ⟨x1, _ | _⟩ <;> rcases s 2 with _ | ⟨x2, _ | _⟩ <;> simp [readyOf, Sl.a, Sl.f, Sl.rem]
    refine wpAnyH_ready hrd hne ?_
    intro i hi
    simp only [readyOf, List.mem_append] at hi
    rcases hi with ((((hi | hi) | hi) | hi) | hi) | hi
    · rcases hs : s 0 with _ | ⟨n, _ | _⟩
      · simp [hs, Sl.a] at hi; subst hi; exact mk_ 0 o3 (by decide) h3 g3 d3 p3 hs 3 (by simp)
      · simp [hs, Sl.a] at hi
      · simp [hs, Sl.a] at hi
    · rcases hs : s 1 with _ | ⟨n, _ | _⟩
      · simp [hs, Sl.a] at hi; subst hi; exact mk_ 1 o4 (by decide) h4 g4 d4 p4 hs 4 (by simp)
      · simp [hs, Sl.a] at hi
      · simp [hs, Sl.a] at hi
    · rcases hs : s 2 with _ | ⟨n, _ | _⟩
      · simp [hs, Sl.a] at hi; subst hi; exact mk_ 2 o5 (by decide) h5 g5 d5 p5 hs 5 (by simp)
      · simp [hs, Sl.a] at hi
      · simp [hs, Sl.a] at hi
    · rcases hs : s 0 with _ | ⟨n, _ | _⟩
      · simp [hs, Sl.a, Sl.f] at hi
      · simp [hs, Sl.a, Sl.f] at hi; obtain ⟨_, rfl⟩ := hi; exact fill_ 0 n o6 y6 (by decide) h6 g6 d6 p6 e6 (hx 0 n (by decide) hs) hs 6 (by simp)
      · simp [hs, Sl.a, Sl.f] at hi
    · rcases hs : s 1 with _ | ⟨n, _ | _⟩
      · simp [hs, Sl.a, Sl.f] at hi
      · simp [hs, Sl.a, Sl.f] at hi; obtain ⟨_, rfl⟩ := hi; exact fill_ 1 n o7 y7 (by decide) h7 g7 d7 p7 e7 (hx 1 n (by decide) hs) hs 7 (by simp)
      · simp [hs, Sl.a, Sl.f] at hi
    · rcases hs : s 2 with _ | ⟨n, _ | _⟩
      · simp [hs, Sl.a, Sl.f] at hi
      · simp [hs, Sl.a, Sl.f] at hi; obtain ⟨_, rfl⟩ := hi; exact fill_ 2 n o8 y8 (by decide) h8 g8 d8 p8 e8 (hx 2 n (by decide) hs) hs 8 (by simp)
      · simp [hs, Sl.a, Sl.f] at hi
theorem start_act {P : Program} {md : Region.Mode} {ops : Array Oper} {Q : Exit → Act → World → Prop} {S : World → Prop} {fuel : Nat} {listed : Array Bool} {T : Array Value} {W : World} (e : actOf T (fun _ => Sl.no) = { tmps := T, defers := [] })
    (h : wpAnyH P md ops Q S fuel listed (actOf T fun _ => Sl.no) W) : wpAnyH P md ops Q S fuel listed { tmps := T, defers := [] } W := by rw [e] at h; exact h
theorem three_start {base : Nat} {w0 : World} {ty : TypeId} {Z C : Array Value} (_hb : base ≤ w0.heap.size) : Three base w0 ty Z C (fun _ => Sl.no) w0 :=
  ⟨fun _ _ _ h => (by cases h), fun _ _ _ h => (by cases h), fun _ _ _ h => (by rcases h with h | h <;> cases h), fun _ _ _ _ _ _ h => (by rcases h with h | h <;> cases h), Below.refl _ _⟩
end Go.Proofs.Yteohjfhflodklaa
