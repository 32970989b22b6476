/- Rows of records, rows that know what their block is: what scan of log leans on. No condition. -/
import Derived.Test.YteohjfhflodklaaLogJ
import Derived.Test.YteohjfhflodklaaFrN
namespace Go.Proofs.Yteohjfhflodklaa
open Go.RowKit Pen
open Crc (four nx run)
set_option maxRecDepth 4000
/-- Records in a row of one's own; R: where they lie. -/
def Recs (R : Nat → Prop) (base : Nat) (w : World) (v : Value) (rs : List (List Nat)) : Prop :=
  ∃ xs : List Value, w.ownsRow base 40 1 v rs.length xs ∧ ∀ i, i < rs.length → ∃ b off c, xs[i]? = some (.slice (some ⟨b, off, none⟩) (rs.getD i []).length c) ∧ Row w (some ⟨b, off, none⟩) (rs.getD i []) ∧ rs.getD i [] ≠ [] ∧ R b ∧ v.ownBlock ≠ some b
theorem recs_nil (R : Nat → Prop) (base : Nat) (w : World) : Recs R base w (.slice none 0 0) [] := ⟨[], World.ownsRow_nil _ _ 40 1, fun i hi => by simp at hi⟩
theorem Row.lt {w : World} {b off : Nat} {l : List Nat} (h : Row w (some ⟨b, off, none⟩) l) (hne : l ≠ []) : b < w.heap.size := by
  rcases h.2 with h2 | ⟨b', o', e, hlt, _⟩
  · exact absurd h2 hne
  · simp at e; obtain ⟨rfl, _⟩ := e; exact hlt
theorem Recs.but {R S : Nat → Prop} {base : Nat} {w w' : World} {v : Value} {rs : List (List Nat)} (h : Recs R base w v rs) (hb : But S w w') (h1 : ∀ k, S k → k < base ∧ ¬ R k) : Recs R base w' v rs := by
  obtain ⟨xs, ho, hx⟩ := h
  refine ⟨xs, owns_but ho hb (fun k e => (h1 k e).1), fun i hi => ?_⟩
  obtain ⟨b, off, c, e1, e2, e3, e4, e5⟩ := hx i hi
  exact ⟨b, off, c, e1, e2.but hb (fun p e => by simp at e; subst e; exact fun hs => (h1 _ hs).2 e4), e3, e4, e5⟩
theorem Recs.below {R : Nat → Prop} {base : Nat} {w w' : World} {v : Value} {rs : List (List Nat)} (h : Recs R base w v rs) (hb : Below w.heap.size w w') : Recs R base w' v rs :=
  h.but (below_but (fun _ => False) hb) (fun _ e => e.elim)
theorem Recs.mono {R R' : Nat → Prop} {base : Nat} {w : World} {v : Value} {rs : List (List Nat)} (h : Recs R base w v rs) (hr : ∀ k, R k → R' k) : Recs R' base w v rs := by
  obtain ⟨xs, ho, hx⟩ := h
  refine ⟨xs, ho, fun i hi => ?_⟩
  obtain ⟨b, off, c, e1, e2, e3, e4, e5⟩ := hx i hi
  exact ⟨b, off, c, e1, e2, e3, hr _ e4, e5⟩
theorem Recs.slice {R : Nat → Prop} {base : Nat} {w : World} {v : Value} {rs : List (List Nat)} (h : Recs R base w v rs) : ∃ a c, v = .slice a rs.length c := by
  obtain ⟨xs, ho, _⟩ := h
  exact owns_slice ho
theorem Recs.grid {R : Nat → Prop} {base : Nat} {w : World} {a : Option Addr} {n c : Nat} {rs : List (List Nat)} (h : Recs R base w (.slice a n c) rs) : n = rs.length ∧ Grid w a rs := by
  obtain ⟨xs, ho, hx⟩ := h
  rcases ho.2 with ⟨e, h0⟩ | ⟨g, cap, cur, e, hb, hg, hc, hm, hs, ht⟩
  · simp at e
    exact ⟨by omega, .inl (List.length_eq_zero_iff.1 h0)⟩
  · simp at e
    obtain ⟨rfl, rfl, rfl⟩ := e
    refine ⟨rfl, .inr ⟨g, 0, rfl, (Array.getElem?_eq_some_iff.1 hg).1, fun i hi => ?_⟩⟩
    obtain ⟨b, off, c', e1, e2, _⟩ := hx i hi
    refine ⟨some ⟨b, off, none⟩, c', ?_, e2⟩
    rw [Nat.zero_add, cell_of_row w g i cur 40 (0, 0) hg]
    rw [← ht, Nat.mul_one, List.getElem?_take, if_pos hi] at e1
    simpa using e1
/-- One record more. -/
theorem Recs.snoc {R : Nat → Prop} {base : Nat} {w w2 : World} {v : Value} {rs : List (List Nat)} {r : List Nat} {b off n c g cap : Nat} (xs : List Value)
    (hx : ∀ i, i < rs.length → ∃ b off c, xs[i]? = some (.slice (some ⟨b, off, none⟩) (rs.getD i []).length c) ∧ Row w (some ⟨b, off, none⟩) (rs.getD i []) ∧ rs.getD i [] ≠ [] ∧ R b ∧ v.ownBlock ≠ some b)
    (hl : xs.length = rs.length) (hr : Row w (some ⟨b, off, none⟩) r) (hrl : r.length = n) (hne : r ≠ []) (hR : R b) (hv : v.ownBlock ≠ some b)
    (ho : w2.ownsRow base 40 1 (.slice (some ⟨g, 0, none⟩) (rs.length + 1) cap) (rs.length + 1) (xs ++ [.slice (some ⟨b, off, none⟩) n c]))
    (hg : (w.alloc (.cells #[.slice (some ⟨b, off, none⟩) n c] 40)).grownBy w2 v.ownBlock) (hat : v.ownBlock = some g ∨ (w.alloc (.cells #[.slice (some ⟨b, off, none⟩) n c] 40)).heap.size ≤ g) : Recs R base w2 (.slice (some ⟨g, 0, none⟩) (rs.length + 1) cap) (rs ++ [r]) := by
  have hkeep : ∀ {b' off' : Nat} {l : List Nat}, Row w (some ⟨b', off', none⟩) l → l ≠ [] → v.ownBlock ≠ some b' → Row w2 (some ⟨b', off', none⟩) l := fun {b' off' l} h1 h2 h3 => by
    have h4 := h1.below ((Below.refl _ w).alloc (Nat.le_refl _) (.cells #[.slice (some ⟨b, off, none⟩) n c] 40))
    exact h4.but (grown_but (fun k => v.ownBlock = some k) hg (fun k e => e)) (fun p e => by simp at e; subst e; exact h3)
  have hne2 : ∀ {b' off' : Nat} {l : List Nat}, Row w (some ⟨b', off', none⟩) l → l ≠ [] → v.ownBlock ≠ some b' → (Value.slice (some ⟨g, 0, none⟩) (rs.length + 1) cap).ownBlock ≠ some b' := fun {b' off' l} h1 h2 h3 e => by
    simp [Value.ownBlock] at e
    rcases hat with h | h
    · exact h3 (by rw [h, e])
    · have := h1.lt h2
      simp at h
      omega
  refine ⟨xs ++ [.slice (some ⟨b, off, none⟩) n c], by rw [List.length_append]; exact ho, fun i hi => ?_⟩
  by_cases hi2 : i < rs.length
  · obtain ⟨b', off', c', e1, e2, e3, e4, e5⟩ := hx i hi2
    have e : (rs ++ [r]).getD i [] = rs.getD i [] := by simp [List.getElem?_append_left hi2]
    rw [e]
    exact ⟨b', off', c', by rw [List.getElem?_append_left (by omega)]; exact e1, hkeep e2 e3 e5, e3, e4, hne2 e2 e3 e5⟩
  · have hi3 : i = rs.length := by simp at hi; omega
    subst hi3
    have e : (rs ++ [r]).getD rs.length [] = r := by simp
    rw [e, hrl]
    exact ⟨b, off, c, by rw [← hl]; simp, hkeep hr hne hv, hne, hR, hne2 hr hne hv⟩
/-! ### Rows that know their block -/
def BRow (lo : Nat) (w : World) (a : Option Addr) (l : List Nat) : Prop := Row w a l ∧ (l = [] ∨ ∃ b off, a = some ⟨b, off, none⟩ ∧ lo ≤ b ∧ Tag w b 5)
def JRow (lo : Nat) (w : World) (a : Option Addr) (l : List Int) : Prop := IRow w a l ∧ (l = [] ∨ ∃ b off, a = some ⟨b, off, none⟩ ∧ lo ≤ b ∧ Tag w b 3)
/-- What S may hold so that a row of blocks t from lo on stays. -/
def Past (S : Nat → Prop) (lo : Nat) (w : World) (t : TypeId) : Prop := ∀ k, S k → k < lo ∨ ∃ s, Tag w k s ∧ s ≠ t
theorem Tag.but {S : Nat → Prop} {w w' : World} {k : Nat} {t : TypeId} (h : Tag w k t) (hb : But S w w') (hs : ¬ S k) : Tag w' k t := by
  obtain ⟨c, h⟩ := h
  exact ⟨c, (hb.block k (Array.getElem?_eq_some_iff.1 h).1 hs).trans h⟩
theorem past_no {S : Nat → Prop} {lo : Nat} {w : World} {t : TypeId} (h : Past S lo w t) {k : Nat} (hk : lo ≤ k) (ht : Tag w k t) : ¬ S k := fun e => by
  rcases h k e with h1 | ⟨s, h1, h2⟩
  · omega
  · exact absurd rfl (h1.ne ht h2)
theorem BRow.but {S : Nat → Prop} {lo : Nat} {w w' : World} {a : Option Addr} {l : List Nat} (h : BRow lo w a l) (hb : But S w w') (hp : Past S lo w 5) : BRow lo w' a l := by
  rcases h.2 with h2 | ⟨b, off, rfl, h3, h4⟩
  · subst h2; exact ⟨row_nil _ _, .inl rfl⟩
  · exact ⟨h.1.but hb (fun p e => by simp at e; subst e; exact past_no hp h3 h4), .inr ⟨b, off, rfl, h3, h4.but hb (past_no hp h3 h4)⟩⟩
theorem IRow.but {S : Nat → Prop} {w w' : World} {a : Option Addr} {l : List Int} (h : IRow w a l) (hb : But S w w') (hs : ∀ v, a = some v → ¬ S v.block) : IRow w' a l := by
  rcases h with h2 | ⟨b, off, ha, hlt, hc⟩
  · exact .inl h2
  · refine .inr ⟨b, off, ha, Nat.lt_of_lt_of_le hlt hb.size, fun i hi => ?_⟩
    rw [hb.cell b _ hlt (hs _ ha)]
    exact hc i hi
theorem JRow.but {S : Nat → Prop} {lo : Nat} {w w' : World} {a : Option Addr} {l : List Int} (h : JRow lo w a l) (hb : But S w w') (hp : Past S lo w 3) : JRow lo w' a l := by
  rcases h.2 with h2 | ⟨b, off, rfl, h3, h4⟩
  · subst h2; exact ⟨.inl rfl, .inl rfl⟩
  · exact ⟨h.1.but hb (fun p e => by simp at e; subst e; exact past_no hp h3 h4), .inr ⟨b, off, rfl, h3, h4.but hb (past_no hp h3 h4)⟩⟩
theorem past_none (lo : Nat) (w : World) (t : TypeId) : Past (fun _ => False) lo w t := fun _ e => e.elim
theorem BRow.below {lo : Nat} {w w' : World} {a : Option Addr} {l : List Nat} (h : BRow lo w a l) (hb : Below w.heap.size w w') : BRow lo w' a l := h.but (below_but (fun _ => False) hb) (past_none _ _ _)
theorem JRow.below {lo : Nat} {w w' : World} {a : Option Addr} {l : List Int} (h : JRow lo w a l) (hb : Below w.heap.size w w') : JRow lo w' a l := h.but (below_but (fun _ => False) hb) (past_none _ _ _)
theorem brow_of_owns {w : World} {base : Nat} {v : Value} {l : List Nat} (h : w.ownsRow base 5 1 v l.length (vals l)) (hl : ∀ x ∈ l, x < 256) : ∃ a c, v = .slice a l.length c ∧ l.length ≤ c ∧ BRow base w a l := by
  obtain ⟨a, c, e, h1, _, h3⟩ := row_of_owns h hl
  subst e
  refine ⟨a, c, rfl, h1, h3, ?_⟩
  rcases h.2 with ⟨e, h0⟩ | ⟨g, cap, cur, e, hb, hg, _⟩
  · exact .inl (List.length_eq_zero_iff.1 h0)
  · simp at e
    obtain ⟨rfl, rfl⟩ := e
    exact .inr ⟨g, 0, rfl, hb, ⟨_, hg⟩⟩
theorem jrow_of_owns {w : World} {base : Nat} {v : Value} {l : List Int} (h : w.ownsRow base 3 1 v l.length (ivals l)) : ∃ a c, v = .slice a l.length c ∧ l.length ≤ c ∧ JRow base w a l := by
  obtain ⟨a, c, e, h1, h2, _⟩ := srow_of_owns h
  subst e
  refine ⟨a, c, rfl, h2, h1.irow, ?_⟩
  rcases h.2 with ⟨e, h0⟩ | ⟨g, cap, cur, e, hb, hg, _⟩
  · exact .inl (List.length_eq_zero_iff.1 h0)
  · simp at e
    obtain ⟨rfl, rfl⟩ := e
    exact .inr ⟨g, 0, rfl, hb, ⟨_, hg⟩⟩
theorem fromA_some {b off k cap : Nat} (h : k < cap) : fromA (some ⟨b, off, none⟩) k cap = some ⟨b, off + k, none⟩ := by
  simp only [fromA, if_neg (show ¬ cap = k by omega), Option.map_some, Addr.add]
  split
  · next h => rw [h]; rfl
  · rfl
theorem BRow.drop {lo : Nat} {w : World} {a : Option Addr} {l : List Nat} (h : BRow lo w a l) (k cap : Nat) (hc : l.length ≤ cap) : BRow lo w (fromA a k cap) (l.drop k) := by
  refine ⟨row_drop h.1 k cap hc, ?_⟩
  by_cases hk : k < l.length
  · rcases h.2 with h2 | ⟨b, off, rfl, h3, h4⟩
    · exact .inl (by rw [h2]; simp)
    · exact .inr ⟨b, off + k, fromA_some (by omega), h3, h4⟩
  · exact .inl (List.drop_of_length_le (by omega))
theorem irow_drop {w : World} {a : Option Addr} {l : List Int} (h : IRow w a l) (k cap : Nat) (hc : l.length ≤ cap) : IRow w (fromA a k cap) (l.drop k) := by
  by_cases hk : k < l.length
  · rcases h with h2 | ⟨b, off, rfl, hlt, hcell⟩
    · exact .inl (by rw [h2]; simp)
    · refine .inr ⟨b, off + k, fromA_some (by omega), hlt, fun i hi => ?_⟩
      have hi' : k + i < l.length := by simp at hi; omega
      rw [Nat.add_assoc, hcell (k + i) hi']
      simp
  · exact .inl (List.drop_of_length_le (by omega))
theorem JRow.drop {lo : Nat} {w : World} {a : Option Addr} {l : List Int} (h : JRow lo w a l) (k cap : Nat) (hc : l.length ≤ cap) : JRow lo w (fromA a k cap) (l.drop k) := by
  refine ⟨irow_drop h.1 k cap hc, ?_⟩
  by_cases hk : k < l.length
  · rcases h.2 with h2 | ⟨b, off, rfl, h3, h4⟩
    · exact .inl (by rw [h2]; simp)
    · exact .inr ⟨b, off + k, fromA_some (by omega), h3, h4⟩
  · exact .inl (List.drop_of_length_le (by omega))
theorem bts_drop (D : Nat → List Nat) (n m c : Nat) (h : c ≤ m) : (bts D n m).drop c = bts D (n + c) (m - c) := by
  obtain ⟨k, rfl⟩ : ∃ k, m = c + k := ⟨m - c, by omega⟩
  have e : bts D n (c + k) = bts D n c ++ bts D (n + c) k := by
    unfold bts
    rw [List.range_add, List.map_append, List.map_map]
    congr 1
    apply List.map_congr_left
    intro i _
    simp [Nat.add_assoc]
  rw [e, List.drop_left' (bts_len _ _ _), Nat.add_sub_cancel_left]
/-- The three numbers of a log are set. -/
theorem LogAt.set {w : World} {g q n last boot n' last' boot' : Nat} {segs : List Nat} (h : LogAt w g q segs n last boot) (h1 : last' < 4294967296) (h2 : boot' < 4294967296) (h3 : n' ≤ 768) :
    LogAt (((w.setCell ⟨g, 2, none⟩ (.int .i64 (n' : Int))).setCell ⟨g, 3, none⟩ (.int .u32 (last' : Int))).setCell ⟨g, 4, none⟩ (.int .i64 (boot' : Int))) g q segs n' last' boot' ∧
      But (fun k => k = g) w (((w.setCell ⟨g, 2, none⟩ (.int .i64 (n' : Int))).setCell ⟨g, 3, none⟩ (.int .u32 (last' : Int))).setCell ⟨g, 4, none⟩ (.int .i64 (boot' : Int))) := by
  have hs := fun (W : World) (i : Nat) (v : Value) => (only_setCell W g i none v).but.mono (T := fun k => k = g) (fun k e => .inl (by rcases e with e | e; exact e; simp at e))
  have hb := ((hs w 2 (.int .i64 (n' : Int))).trans (hs _ 3 (.int .u32 (last' : Int))) (fun k e => .inl e)).trans (hs _ 4 (.int .i64 (boot' : Int))) (fun k e => .inl e)
  refine ⟨?_, hb⟩
  have hni : NoInts (fun k => k = g) w := noInts_of (fun j e => ⟨71, e ▸ h.tag, by decide⟩)
  obtain ⟨a, c, k1, k2, k3, k4, k5⟩ := h.blk
  exact ⟨⟨a, c, heap_setCell_same _ _ _ _ _ _ (heap_setCell_same _ _ _ _ _ _ (heap_setCell_same _ _ _ _ _ _ k1)), k2.but hb hni, k3, k4, k5⟩, h.lt, h.len, h1, h2, h3⟩
end Go.Proofs.Yteohjfhflodklaa
