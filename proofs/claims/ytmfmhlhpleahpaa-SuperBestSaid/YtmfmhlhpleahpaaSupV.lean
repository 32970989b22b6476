/- What stays while the statement of two slots that are turned goes on. No condition. -/
import Derived.Test.YtmfmhlhpleahpaaSupU
import Derived.Laws.IdiomArrays
namespace Go.Proofs.Ytmfmhlhpleahpaa
open Go.ChangeShapes Go.WideShapes Go.ChangeAt Go.RowKit Pen
theorem getD_set_nat (Y : List Nat) (i j x : Nat) (hi : i < Y.length) : (Y.set i x).getD j 0 = if i = j then x else Y.getD j 0 := by
  simp only [List.getD_eq_getElem?_getD, List.getElem?_set]
  by_cases h : i = j
  · subst h; simp [hi]
  · simp [h]
/-- While bytes are turned: from a on, i of them. -/
structure Turn (X Y : List Nat) (a i : Nat) (c : Bool) : Prop where
  len : Y.length = X.length
  near : ∀ j, X.getD j 0 ≠ Y.getD j 0 → a ≤ j ∧ j < a + i
  no : c = false → Y = X
  yes : c = true → ∃ j, j < a + i ∧ j < X.length ∧ X.getD j 0 ≠ Y.getD j 0
theorem turn_zero (X : List Nat) (a : Nat) : Turn X X a 0 false := ⟨rfl, fun j h => absurd rfl h, fun _ => rfl, fun h => by cases h⟩
theorem xor_ne {x y : Nat} (h : y ≠ 0) : x ≠ x ^^^ y := by
  intro e
  have : x ^^^ x = x ^^^ (x ^^^ y) := by rw [← e]
  rw [Nat.xor_self, ← Nat.xor_assoc, Nat.xor_self, Nat.zero_xor] at this
  exact h this.symm
theorem Turn.step {X Y : List Nat} {a i : Nat} {c : Bool} (h : Turn X Y a i c) (y : Nat) (hi : a + i < X.length) : Turn X (Y.set (a + i) (Y.getD (a + i) 0 ^^^ y)) a (i + 1) (c || !(y == 0)) := by
  have hl := h.len
  have hsame : X.getD (a + i) 0 = Y.getD (a + i) 0 := by
    by_cases e : X.getD (a + i) 0 = Y.getD (a + i) 0
    · exact e
    · have := h.near _ e; omega
  have hg : ∀ j, (Y.set (a + i) (Y.getD (a + i) 0 ^^^ y)).getD j 0 = if a + i = j then Y.getD (a + i) 0 ^^^ y else Y.getD j 0 := fun j => getD_set_nat Y (a + i) j _ (by omega)
  refine ⟨by rw [List.length_set, hl], fun j hj => ?_, fun hc => ?_, fun hc => ?_⟩
  · rw [hg] at hj
    by_cases e : a + i = j
    · omega
    · rw [if_neg e] at hj
      have := h.near j hj
      omega
  · have hc' : c = false ∧ y = 0 := by simpa using hc
    obtain ⟨h1, rfl⟩ := hc'
    rw [h.no h1, Nat.xor_zero]
    refine ext_getD (by simp) (fun j hj => ?_)
    rw [getD_set_nat X (a + i) j _ hi]
    by_cases e : a + i = j
    · rw [if_pos e, e]
    · rw [if_neg e]
  · by_cases h0 : y = 0
    · have h1 : c = true := by simpa [h0] using hc
      obtain ⟨j, h2, h3, h4⟩ := h.yes h1
      refine ⟨j, by omega, h3, ?_⟩
      rw [hg, if_neg (by omega)]
      exact h4
    · refine ⟨a + i, by omega, hi, ?_⟩
      rw [hg, if_pos rfl, hsame]
      exact xor_ne h0
theorem Turn.ends {s : Sp} (hs : s.Ok 96) (s1 : s.j.last < 4294967296) (s2 : s.c.last < 4294967296) {Y : List Nat} {a i : Nat} {c : Bool} (h : Turn s.bytes Y a i c) (hi : i ≤ 4) (hY : ∀ x ∈ Y, x < 256) : parse Y 96 = if c then none else some s := by
  cases c with
  | false =>
    rw [h.no rfl, parse_bytes hs s1 s2, may_of_96, decide_eq_true hs]
    rfl
  | true =>
    obtain ⟨j, _, _, h3⟩ := h.yes rfl
    exact near_none (a := a) hs s1 s2 hY ⟨h.len.symm, fun j _ hj => by have := h.near j hj; omega⟩ (fun e => h3 (by rw [e])) 96
structure Tri (w : World) (x y z : Array Value) (v : World) : Prop where
  two : Two w x y v
  bz : v.heap[w.heap.size + 2]? = some (.cells z 44 (0, 0))
  sz : w.heap.size + 2 < v.heap.size
theorem Tri.below {w v v' : World} {x y z : Array Value} (h : Tri w x y z v) (hb : Below v.heap.size v v') : Tri w x y z v' :=
  ⟨h.two.below hb, (hb.block _ h.sz).trans h.bz, Nat.lt_of_lt_of_le h.sz hb.size⟩
theorem Tri.only {w v v' : World} {x y z : Array Value} {q p : Nat} (h : Tri w x y z v) (ho : Only q (some p) v v') (hq : w.heap.size + 3 ≤ q) (hp : w.heap.size + 3 ≤ p) : Tri w x y z v' :=
  ⟨h.two.only ho (by omega) (by omega), (ho.block _ h.sz (by omega) (by simp; omega)).trans h.bz, Nat.lt_of_lt_of_le h.sz ho.size⟩
theorem Tri.new (w : World) (x y z : Array Value) : Tri w x y z (((w.alloc (.cells x 27)).alloc (.cells y 27)).alloc (.cells z 44)) := by
  have hb : Below ((w.alloc (.cells x 27)).alloc (.cells y 27)).heap.size ((w.alloc (.cells x 27)).alloc (.cells y 27)) (((w.alloc (.cells x 27)).alloc (.cells y 27)).alloc (.cells z 44)) := (Below.refl _ _).alloc (Nat.le_refl _) _
  refine ⟨(Two.new w x y).below hb, ?_, by simp⟩
  have := heap_alloc_new ((w.alloc (.cells x 27)).alloc (.cells y 27)) (.cells z 44)
  simpa using this
theorem Tri.setCell {w v : World} {x y z : Array Value} (h : Tri w x y z v) (zb i : Nat) (u : Value) (hz : w.heap.size + 3 ≤ zb) : Tri w x y z (v.setCell ⟨zb, i, none⟩ u) := by
  have hs : ∀ k, k ≠ zb → (v.setCell ⟨zb, i, none⟩ u).heap[k]? = v.heap[k]? := fun k hk => Below.heap_setCell _ _ _ _ hk
  have hz2 : (v.setCell ⟨zb, i, none⟩ u).heap.size = v.heap.size := by simp [World.setCell]
  refine ⟨⟨(hs _ (by omega)).trans h.two.bx, (hs _ (by omega)).trans h.two.bY, h.two.low.setCell (by dsimp only; omega) _, by rw [hz2]; exact h.two.sz⟩, (hs _ (by omega)).trans h.bz, by rw [hz2]; exact h.sz⟩
def cf (v : Nat) : Nat → Bool
  | 0 => false
  | i + 1 => cf v i || !(v / 2 ^ (8 * i) % 256 == 0)
theorem cf_two {v : Nat} (h : v ≠ 0) (hv : v < 65536) : cf v 2 = true := by
  simp only [cf, Bool.false_or]
  by_cases h0 : v % 256 = 0
  · have : ¬ (v / 256 % 256 = 0) := by omega
    simp [this]
  · simp [h0]
/-- Both slots, turned or not, and the marks that say so. -/
structure St (X : Nat → List Nat) (bb : Nat → Bool) (wr : World) (q p zb : Nat) (d : Dk) : Prop where
  disk : DiskAt wr q p d
  dead : d.dead = false
  len : d.secs.length = 8
  bad : wr.heap[zb]? = some (.cells #[.bool (bb 0), .bool (bb 1)] 49 (0, 0))
  turn : ∀ s, s < 2 → ∃ a n, n ≤ 4 ∧ Turn (X s) (d.slot s) a n (bb s)
theorem St.reads {X : Nat → List Nat} {bb : Nat → Bool} {wr : World} {q p zb : Nat} {d : Dk} (h : St X bb wr q p zb d) (s : Nat) (hs : s < 2) : ∀ i, i < 4 → (d.read (s * 4 + i)).length = 64 := fun i hi => read_len h.disk (by rw [h.len]; omega)
theorem slot_lt {wr : World} {q p : Nat} {d : Dk} (h : DiskAt wr q p d) (hlen : d.secs.length = 8) (s : Nat) (hs : s < 2) : ∀ x ∈ d.slot s, x < 256 := by
  intro x hx
  rw [slot_four] at hx
  have hb : ∀ i, i < 4 → ∀ y ∈ d.read (s * 4 + i), y < 256 := fun i hi => (h.ok.1.get (s * 4 + i) (by omega)).last.2
  simp only [List.mem_append, List.not_mem_nil, or_false] at hx
  rcases hx with h | h | h | h
  · exact hb 0 (by decide) x h
  · exact hb 1 (by decide) x h
  · exact hb 2 (by decide) x h
  · exact hb 3 (by decide) x h
set_option maxRecDepth 10000 in
theorem u16s_of {H : Type} {enc : TypeId × Value → H} {w : World} {fuel : Nat} {cs : Array Value} {x : DataW H × List MemPlace} (hc : cs.size = 4) (h : DataW.trod enc Try.prog w 0 (fun _ => true) true fuel 44 cs.toList = some x) :
    ∃ tv : Nat → Nat, cs = #[.int .u16 (tv 0 : Nat), .int .u16 (tv 1 : Nat), .int .u16 (tv 2 : Nat), .int .u16 (tv 3 : Nat)] ∧ ∀ i, tv i < 65536 := by
  obtain ⟨cs⟩ := cs
  obtain ⟨c0, c1, c2, c3, rfl⟩ : ∃ a b c d, cs = [a, b, c, d] := by
    match cs, hc with
    | [a, b, c, d], _ => exact ⟨a, b, c, d, rfl⟩
  obtain ⟨y0, y1, y2, y3, m, _, e0, e1, e2, e3⟩ := trod_array4 Try.underlying44 (by kernel_rfl) h
  obtain ⟨z0, q0, _, w0⟩ := DataW.trod_int Try.underlying43 e0
  obtain ⟨z1, q1, _, w1⟩ := DataW.trod_int Try.underlying43 e1
  obtain ⟨z2, q2, _, w2⟩ := DataW.trod_int Try.underlying43 e2
  obtain ⟨z3, q3, _, w3⟩ := DataW.trod_int Try.underlying43 e3
  have r0 : c0 = _ := List.head_eq_of_cons_eq q0
  have r1 : c1 = _ := List.head_eq_of_cons_eq q1
  have r2 : c2 = _ := List.head_eq_of_cons_eq q2
  have r3 : c3 = _ := List.head_eq_of_cons_eq q3
  have b0 := bounds_u16 w0
  have b1 := bounds_u16 w1
  have b2 := bounds_u16 w2
  have b3 := bounds_u16 w3
  refine ⟨fun i => if i = 0 then z0.toNat else if i = 1 then z1.toNat else if i = 2 then z2.toNat else z3.toNat, ?_, fun i => ?_⟩
  · rw [r0, r1, r2, r3]
    have k0 : ((z0.toNat : Nat) : Int) = z0 := by omega
    have k1 : ((z1.toNat : Nat) : Int) = z1 := by omega
    have k2 : ((z2.toNat : Nat) : Int) = z2 := by omega
    have k3 : ((z3.toNat : Nat) : Int) = z3 := by omega
    simp [k0, k1, k2, k3]
  · dsimp only
    split
    · omega
    · split
      · omega
      · split <;> omega
set_option maxRecDepth 10000 in
theorem okWide_four {W : World} {b0 : Nat} {v : Value} (h : Value.okWide Try.prog W .any b0 44 v) : ∃ cs : Array Value, v = .agg cs ∧ cs.size = 4 := by
  unfold Value.okWide at h
  rw [Try.underlying44] at h
  obtain ⟨cs, h1, h2, _⟩ := h
  exact ⟨cs, h1, h2.trans (by kernel_rfl)⟩
end Go.Proofs.Ytmfmhlhpleahpaa
