/- A log with the row of its records, while they are put one by one: what each step keeps. No condition. -/
import Derived.Test.YteohjfhflodklaaLawB
import Derived.Test.YteohjfhflodklaaLogU
import Derived.Test.YteohjfhflodklaaLogM
import Derived.Deep.RegionHeldLaw
import Derived.BigQuiet
namespace Go.Proofs.Yteohjfhflodklaa
open Go.ChangeShapes Go.WideShapes Go.ChangeAt Go.RowKit Pen
open Crc (four nx run)
theorem nfree_giveAll {k : Nat} (hk : k ≤ 96) : ∀ (l : List Nat) (t : List Bool), t.length = 96 → l.Nodup → (∀ s ∈ l, s < k ∧ t.getD s false = true) → Sp.nfree (giveAll t l) k = Sp.nfree t k + l.length
  | [], _, _, _, _ => rfl
  | s :: l, t, ht, hn, h => by
    obtain ⟨h1, h2⟩ := h s (by simp)
    have hn' := List.nodup_cons.1 hn
    have e : giveAll t (s :: l) = giveAll (t.set s false) l := by
      unfold giveAll
      rw [List.foldl_cons, h2]
      rfl
    rw [e, nfree_giveAll hk l (t.set s false) (by rw [List.length_set, ht]) hn'.2 (fun s' hs' => ?_), Sp.nfree_give t s (by omega) h2 k h1, List.length_cons]
    · omega
    · obtain ⟨h3, h4⟩ := h s' (by simp [hs'])
      refine ⟨h3, ?_⟩
      rw [Sp.getD_set t s s' false (by omega), if_neg (fun e => hn'.1 (by rw [e]; exact hs'))]
      exact h4
theorem more_none {w : World} {g q p n last boot : Nat} {d : Dk} {segs : List Nat} (h : LogAt w g q segs n last boot) (hd : DiskAt w q p d) (hdead : d.dead = false) (hs : Has d segs) (hn : segs.Nodup) (hb : Blank d segs n) (ask : Int) :
    Calls Try.prog 20 #[.pointer (some ⟨g, 0, none⟩), .int .i64 ask] w fun r w' => ∃ a c, r = .returned (.slice a 0 c) ∧ LogAt w' g q segs n last boot ∧ But (fun k => k = g) w w' := by
  refine (more_any h hd hdead hs ask (8 * segs.length - n) rfl).mono ?_
  rintro r w' ⟨v, rfl, h1, h2, h3⟩
  have e : scan (mfits ask) (pl d segs) (8 * segs.length - n) last boot n (8 * segs.length - n) = [] := scan_blank fun h0 => by
    refine hb _ (num_lt hs (by omega)) fun j hj e => ?_
    have := num_inj hn (by omega) (by omega) e
    omega
  rw [e] at h1 h2
  obtain ⟨a, c, rfl⟩ := h1.slice
  exact ⟨a, c, rfl, h2, h3⟩
theorem box36 (w : World) (a : Option Addr) (k c : Nat) (n last : Int) : (Instr.storeAt 36 (.pointer (some ⟨w.heap.size, 0, none⟩)) (.agg #[.slice a k c, .int .i64 n, .int .u32 last])).run Try.prog (w.alloc (.cells #[.slice none 0 0, .int .i64 0, .int .u32 0] 36)) = .ok () (w.alloc (.cells #[.slice a k c, .int .i64 n, .int .u32 last] 36)) :=
  run_storeAt_new w 36 #[.slice none 0 0, .int .i64 0, .int .u32 0] #[.slice a k c, .int .i64 n, .int .u32 last] (by exact size36) rfl (by simp [Value.oneCell'])
theorem Recs.but2 {R S : Nat → Prop} {base : Nat} {w w' : World} {v : Value} {rs : List (List Nat)} (h : Recs R base w v rs) (hb : But S w w') (h1 : ∀ k, S k → (∃ t, Tag w k t ∧ t ≠ 40) ∧ ¬ R k) : Recs R base w' v rs := by
  obtain ⟨xs, ho, hx⟩ := h
  refine ⟨xs, ⟨ho.1, ?_⟩, fun i hi => ?_⟩
  · rcases ho.2 with h3 | ⟨g', cap', cur, he, hb', hg, hc⟩
    · exact .inl h3
    · exact .inr ⟨g', cap', cur, he, hb', (hb.block g' (Array.getElem?_eq_some_iff.1 hg).1 fun e => by obtain ⟨t, ht, hn⟩ := (h1 _ e).1; exact absurd rfl (ht.ne ⟨_, hg⟩ hn)).trans hg, hc⟩
  · obtain ⟨b, off, c, e1, e2, e3, e4, e5⟩ := hx i hi
    exact ⟨b, off, c, e1, e2.but hb (fun p e => by simp at e; subst e; exact fun hs => (h1 _ hs).2 e4), e3, e4, e5⟩
theorem to_drewN {b : Nat} {w w' : World} (h : Below b w w') (n : Nat) : Below b w (w'.drewN n) := ⟨h.os, h.tape, h.output, h.size, h.block⟩
theorem to_drew {b : Nat} {w w' : World} (h : Below b w w') : Below b w w'.drew := ⟨h.os, h.tape, h.output, h.size, h.block⟩
/-- s: where the call's own memory begins; t: where that begins which is younger than the log, its disk and its space. -/
structure Ing (s t : Nat) (w : World) (g q p x : Nat) (d : Dk) (k mm : Nat) (segs : List Nat) (recs : List (Nat × List Nat)) (v : Value) (rs : List (List Nat)) : Prop where
  is : LogIs w g q p x d k mm segs recs
  rows : Recs (fun b => b < s) t w v rs
  past : t ≤ w.heap.size
  far : ∀ j, (j = q ∨ j = p ∨ j = x ∨ j = g) → j < t ∧ s ≤ j
  st : s ≤ t
theorem Ing.below {s t : Nat} {w w' : World} {g q p x : Nat} {d : Dk} {k mm : Nat} {segs : List Nat} {recs : List (Nat × List Nat)} {v : Value} {rs : List (List Nat)} (h : Ing s t w g q p x d k mm segs recs v rs) (hb : Below w.heap.size w w') : Ing s t w' g q p x d k mm segs recs v rs :=
  ⟨h.is.below hb, h.rows.below hb, Nat.le_trans h.past hb.size, h.far, h.st⟩
/-- The log, its disk and its space are written, nothing else. -/
theorem Ing.put {s t : Nat} {w w' : World} {g q p x : Nat} {d d' : Dk} {k mm mm' : Nat} {segs segs' : List Nat} {recs recs' : List (Nat × List Nat)} {v : Value} {rs : List (List Nat)} (h : Ing s t w g q p x d k mm segs recs v rs) (hb : But (fun j => j = q ∨ j = p ∨ j = x ∨ j = g) w w') (hi : LogIs w' g q p x d' k mm' segs' recs') : Ing s t w' g q p x d' k mm' segs' recs' v rs :=
  ⟨hi, h.rows.but hb (fun j e => by have := h.far j e; omega), Nat.le_trans h.past hb.size, h.far, h.st⟩
theorem Ing.low {s t : Nat} {w w' : World} {g q p x : Nat} {d : Dk} {k mm : Nat} {segs : List Nat} {recs : List (Nat × List Nat)} {v : Value} {rs : List (List Nat)} (h : Ing s t w g q p x d k mm segs recs v rs) (hb : But (fun j => j = q ∨ j = p ∨ j = x ∨ j = g) w w') : Below s w w' :=
  hb.below (base := s) (fun j e => (h.far j e).2) (Nat.le_trans h.st h.past)
/-- A block that is younger than the log stays while the log is written. -/
theorem Ing.young {s t : Nat} {w w' : World} {g q p x : Nat} {d : Dk} {k mm : Nat} {segs : List Nat} {recs : List (Nat × List Nat)} {v : Value} {rs : List (List Nat)} (h : Ing s t w g q p x d k mm segs recs v rs) (hb : But (fun j => j = q ∨ j = p ∨ j = x ∨ j = g) w w') {y : Nat} {o : Obj} (hy : w.heap[y]? = some o) (ht : t ≤ y) : w'.heap[y]? = some o :=
  (hb.block y (Array.getElem?_eq_some_iff.1 hy).1 (fun e => by have := (h.far y e).1; omega)).trans hy
/-- One row more. -/
theorem Ing.snoc {s t : Nat} {w : World} {g q p x : Nat} {d : Dk} {k mm : Nat} {segs : List Nat} {recs : List (Nat × List Nat)} {a : Option Addr} {n c : Nat} {rs : List (List Nat)} (h : Ing s t w g q p x d k mm segs recs (.slice a n c) rs) (hn : rs.length = n) (hn6 : n ≤ 1000000) {b off m cc : Nat} {r : List Nat} (hr : Row w (some ⟨b, off, none⟩) r) (hm : r.length = m) (hne : r ≠ []) (hb : b < s) :
    ∃ g9 c9 w9, (Builtin.append_ #[22, 22] 22 #[.slice a n c, .slice (some ⟨w.heap.size, 0, none⟩) 1 1]).run Try.prog (w.alloc (.cells #[.slice (some ⟨b, off, none⟩) m cc] 40)) = .ok (.slice (some ⟨g9, 0, none⟩) (n + 1) c9) w9 ∧
      Ing s t w9 g q p x d k mm segs recs (.slice (some ⟨g9, 0, none⟩) (n + 1) c9) (rs ++ [r]) ∧ Below s w w9 ∧ (∀ (y : Nat) (ty : TypeId) (cur : Array Value), w.heap[y]? = some (Obj.cells cur ty (0, 0)) → ty ≠ 40 → w9.heap[y]? = some (Obj.cells cur ty (0, 0))) := by
  subst hn
  obtain ⟨xs, hox, hxx⟩ := h.rows
  have hxl : xs.length = rs.length := by have := hox.1; omega
  have hal : Below w.heap.size w (w.alloc (.cells #[.slice (some ⟨b, off, none⟩) m cc] 40)) := (Below.refl _ w).alloc (Nat.le_refl _) _
  have ho8 := owns_below hox hal
  have hst := h.st
  have hpa := h.past
  obtain ⟨g9, c9, w9, hrun, ho9, hg9, hat9⟩ := app_one _ 22 40 22 24 (.slice none 0 0) Try.underlying22 info40s rfl (by decide) t (.slice a rs.length c) rs.length xs ho8 w.heap.size (.slice (some ⟨b, off, none⟩) m cc) (heap_alloc_new w _) rfl (by omega) (by simp; omega)
  have hvn : (Value.slice a rs.length c).ownBlock ≠ some b := fun e => by have := owns_block hox _ e; omega
  obtain ⟨hb9, hp5, hp3, hni⟩ := after_app (lo := t) ho8 hg9
  have hbx := (below_but (fun j => t ≤ j) hal).trans hb9 (fun j e => .inl (owns_block ho8 _ e))
  have h8 := h.is.below hal
  have hno : ∀ j, j < t → ¬ (Value.slice a rs.length c).ownBlock = some j := fun j hj e => by have := owns_block ho8 _ e; omega
  refine ⟨g9, c9, w9, hrun, ⟨⟨⟨h8.sys.log.but hb9 hni (hno _ (h.far _ (.inr (.inr (.inr rfl)))).1), h8.sys.disk.but hb9 (hno _ (h.far _ (.inl rfl)).1) (hno _ (h.far _ (.inr (.inl rfl))).1), h8.sys.space.but hb9 (hno _ (h.far _ (.inr (.inr (.inl rfl)))).1), h8.sys.dead, h8.sys.fuse, h8.sys.room, h8.sys.le, h8.sys.low, h8.sys.fit, h8.sys.few⟩, h8.at_, h8.ok, h8.nodup, h8.blank, h8.ops, h8.tight, h8.whole⟩, ?_, ?_, h.far, h.st⟩, hbx.below (base := s) (fun j e => by omega) (by omega), ?_⟩
  · exact Recs.snoc (rs := rs) xs hxx hxl hr hm hne hb hvn ho9 hg9 hat9
  · have := hbx.size; omega
  · intro y ty cur hy hty
    have hlt := (Array.getElem?_eq_some_iff.1 hy).1
    have h7 := (hal.block y hlt).trans hy
    exact (hb9.block y (Array.getElem?_eq_some_iff.1 h7).1 (fun e => absurd rfl (Tag.ne (s := ty) (t := 40) ⟨_, h7⟩ (owns_tag ho8 e) hty))).trans h7
/-- What came in as a row of rows, at a place. -/
theorem grid_at {w : World} {a : Option Addr} {ls : List (List Nat)} (h : Grid w a ls) {i : Nat} (hi : i < ls.length) :
    ∃ bg og ai ci, a = some ⟨bg, og, none⟩ ∧ (∀ W, Below w.heap.size w W → W.cell? ⟨bg, og + i, none⟩ = some (.slice ai (ls.getD i []).length ci) ∧ Row W ai (ls.getD i [])) ∧ (ls.getD i [] ≠ [] → ∃ bb oo, ai = some ⟨bb, oo, none⟩ ∧ bb < w.heap.size) := by
  obtain ⟨bg, og, rfl, hc⟩ := h.at_ (by intro e; rw [e] at hi; simp at hi)
  obtain ⟨ai, ci, h1, h2⟩ := hc i hi
  refine ⟨bg, og, ai, ci, rfl, fun W hW => ⟨(hW.cell (block_lt_of_cell h1)).trans h1, h2.below hW⟩, fun hne => ?_⟩
  rcases h2.2 with h3 | ⟨b, o, e, hl, _⟩
  · exact absurd h3 hne
  · exact ⟨b, o, e, hl⟩
theorem step_app3 {ops : Array Oper} {op : Oper} {a : Act} {w : World} {K : Act → World → Prop} {Q : Exit → Act → World → Prop} {E : Prop} (t : TypeId) (hgd : op.guard = none) (d s : Operand)
    (ho : op.op = .call { callee := .builtin .append, args := #[d, s], argTypes := #[t, t] }) (x y : Value) (hd : a.eval d = x) (hs : a.eval s = y) (v : Value) (w' : World) (hrun : (Builtin.append_ #[t, t] op.type #[x, y]).run Try.prog w = .ok v w')
    (z : Tmp) (hz : op.dst = some z) (h : K (a.put (some z) v) w') : if Region.wanted op (yielded ops a.tmps) = true then Oper.wp Try.prog op a w K Q else E := by
  refine step_app2 t hgd d s ho x y hd hs v w' hrun ?_
  rw [hz]
  exact h
end Go.Proofs.Yteohjfhflodklaa
