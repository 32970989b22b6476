/- A log with the row of its records, wherever the log itself lies: what each step keeps. No condition. -/
import Derived.Test.YteohjfhflodklabLogW
namespace Go.Proofs.Yteohjfhflodklab
open Go.ChangeShapes Go.WideShapes Go.ChangeAt Go.RowKit Pen
open Crc (four nx run)
structure Ing2 (s : Nat) (w : World) (g q p x : Nat) (d : Dk) (k mm : Nat) (segs : List Nat) (recs : List (Nat × List Nat)) (v : Value) (rs : List (List Nat)) : Prop where
  is : LogIs w g q p x d k mm segs recs
  rows : Recs (fun b => b < s) s w v rs
  past : s ≤ w.heap.size
  far : ∀ j, (j = q ∨ j = p ∨ j = x ∨ j = g) → s ≤ j
theorem Ing2.below {s : Nat} {w w' : World} {g q p x : Nat} {d : Dk} {k mm : Nat} {segs : List Nat} {recs : List (Nat × List Nat)} {v : Value} {rs : List (List Nat)} (h : Ing2 s w g q p x d k mm segs recs v rs) (hb : Below w.heap.size w w') : Ing2 s w' g q p x d k mm segs recs v rs :=
  ⟨h.is.below hb, h.rows.below hb, Nat.le_trans h.past hb.size, h.far⟩
theorem four_tags {w : World} {g q p x : Nat} {d : Dk} {k mm : Nat} {segs : List Nat} {recs : List (Nat × List Nat)} (h : LogIs w g q p x d k mm segs recs) (j : Nat) (e : j = q ∨ j = p ∨ j = x ∨ j = g) : ∃ t, Tag w j t ∧ t ≠ 42 := by
  rcases e with rfl | rfl | rfl | rfl
  · exact ⟨52, h.sys.disk.tag.1, by decide⟩
  · exact ⟨73, h.sys.disk.tag.2, by decide⟩
  · exact ⟨55, h.sys.space.tag, by decide⟩
  · exact ⟨57, h.sys.log.tag, by decide⟩
theorem Ing2.put {s : Nat} {w w' : World} {g q p x : Nat} {d d' : Dk} {k mm mm' : Nat} {segs segs' : List Nat} {recs recs' : List (Nat × List Nat)} {v : Value} {rs : List (List Nat)} (h : Ing2 s w g q p x d k mm segs recs v rs) (hb : But (fun j => j = q ∨ j = p ∨ j = x ∨ j = g) w w') (hi : LogIs w' g q p x d' k mm' segs' recs') : Ing2 s w' g q p x d' k mm' segs' recs' v rs :=
  ⟨hi, h.rows.but2 hb (fun j e => ⟨four_tags h.is j e, by have := h.far j e; omega⟩), Nat.le_trans h.past hb.size, h.far⟩
theorem Ing2.low {s : Nat} {w w' : World} {g q p x : Nat} {d : Dk} {k mm : Nat} {segs : List Nat} {recs : List (Nat × List Nat)} {v : Value} {rs : List (List Nat)} (h : Ing2 s w g q p x d k mm segs recs v rs) (hb : But (fun j => j = q ∨ j = p ∨ j = x ∨ j = g) w w') : Below s w w' :=
  hb.below (base := s) (fun j e => h.far j e) h.past
/-- The log that was loaded in the place of it. -/
theorem Ing2.load {s : Nat} {w w' : World} {g g' q p x : Nat} {d : Dk} {k mm : Nat} {segs : List Nat} {recs : List (Nat × List Nat)} {v : Value} {rs : List (List Nat)} (h : Ing2 s w g q p x d k mm segs recs v rs) (hb : Below w.heap.size w w') (hl : LogAt w' g' q segs (lenOf recs) (lastOf 0 recs) (bootOf 0 recs)) (hg : w.heap.size ≤ g') : Ing2 s w' g' q p x d k mm segs recs v rs := by
  have h2 := h.below hb
  have hs := h2.is.sys
  refine ⟨⟨⟨hl, hs.disk, hs.space, hs.dead, hs.fuse, hs.room, hs.le, hs.low, hs.fit, hs.few⟩, h.is.at_, h.is.ok, h.is.nodup, h.is.blank, h.is.ops, h.is.tight, h.is.whole⟩, h2.rows, h2.past, fun j e => ?_⟩
  rcases e with e | e | e | rfl
  · exact h.far j (.inl e)
  · exact h.far j (.inr (.inl e))
  · exact h.far j (.inr (.inr (.inl e)))
  · exact Nat.le_trans h.past hg
theorem Ing2.snoc {s : Nat} {w : World} {g q p x : Nat} {d : Dk} {k mm : Nat} {segs : List Nat} {recs : List (Nat × List Nat)} {a : Option Addr} {n c : Nat} {rs : List (List Nat)} (h : Ing2 s w g q p x d k mm segs recs (.slice a n c) rs) (hn : rs.length = n) (hn6 : n ≤ 1000000) {b off m cc : Nat} {r : List Nat} (hr : Row w (some ⟨b, off, none⟩) r) (hm : r.length = m) (hne : r ≠ []) (hb : b < s) :
    ∃ g9 c9 w9, (Builtin.append_ #[22, 22] 22 #[.slice a n c, .slice (some ⟨w.heap.size, 0, none⟩) 1 1]).run Try.prog (w.alloc (.cells #[.slice (some ⟨b, off, none⟩) m cc] 42)) = .ok (.slice (some ⟨g9, 0, none⟩) (n + 1) c9) w9 ∧
      Ing2 s w9 g q p x d k mm segs recs (.slice (some ⟨g9, 0, none⟩) (n + 1) c9) (rs ++ [r]) ∧ Below s w w9 := by
  subst hn
  obtain ⟨xs, hox, hxx⟩ := h.rows
  have hxl : xs.length = rs.length := by have := hox.1; omega
  have hal : Below w.heap.size w (w.alloc (.cells #[.slice (some ⟨b, off, none⟩) m cc] 42)) := (Below.refl _ w).alloc (Nat.le_refl _) _
  have ho8 := owns_below hox hal
  have hpa := h.past
  obtain ⟨g9, c9, w9, hrun, ho9, hg9, hat9⟩ := app_one _ 22 42 22 24 (.slice none 0 0) Try.underlying22 info40s rfl (by decide) s (.slice a rs.length c) rs.length xs ho8 w.heap.size (.slice (some ⟨b, off, none⟩) m cc) (heap_alloc_new w _) rfl (by omega) (by simp; omega)
  have hvn : (Value.slice a rs.length c).ownBlock ≠ some b := fun e => by have := owns_block hox _ e; omega
  obtain ⟨hb9, hp5, hp3, hni⟩ := after_app (lo := s) ho8 hg9
  have hbx := (below_but (fun j => s ≤ j) hal).trans hb9 (fun j e => .inl (owns_block ho8 _ e))
  have h8 := h.is.below hal
  have hno : ∀ j, (j = q ∨ j = p ∨ j = x ∨ j = g) → ¬ (Value.slice a rs.length c).ownBlock = some j := fun j hj e => by
    obtain ⟨t, h1, h2⟩ := four_tags h8 j hj
    exact h1.ne (owns_tag ho8 e) h2 rfl
  refine ⟨g9, c9, w9, hrun, ⟨⟨⟨h8.sys.log.but hb9 hni (hno _ (.inr (.inr (.inr rfl)))), h8.sys.disk.but hb9 (hno _ (.inl rfl)) (hno _ (.inr (.inl rfl))), h8.sys.space.but hb9 (hno _ (.inr (.inr (.inl rfl)))), h8.sys.dead, h8.sys.fuse, h8.sys.room, h8.sys.le, h8.sys.low, h8.sys.fit, h8.sys.few⟩, h8.at_, h8.ok, h8.nodup, h8.blank, h8.ops, h8.tight, h8.whole⟩, ?_, ?_, h.far⟩, hbx.below (base := s) (fun j e => by omega) (by omega)⟩
  · exact Recs.snoc (rs := rs) xs hxx hxl hr hm hne hb hvn ho9 hg9 hat9
  · have := hbx.size; omega
end Go.Proofs.Yteohjfhflodklab
