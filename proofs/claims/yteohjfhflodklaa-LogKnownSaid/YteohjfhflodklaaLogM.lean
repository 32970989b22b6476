/- What More of log does. Condition: the disk has the segments and is not dead. -/
import Derived.Test.YteohjfhflodklaaLogL
namespace Go.Proofs.Yteohjfhflodklaa
open Go.RowKit Pen
open Crc (four nx run)
set_option maxRecDepth 4000
theorem owns_low' {w : World} {b b' e n : Nat} {v : Value} {xs : List Value} (h : w.ownsRow b e 1 v n xs) (hb : b' ≤ b) : w.ownsRow b' e 1 v n xs := by
  refine ⟨h.1, ?_⟩
  rcases h.2 with h | ⟨g, cap, cur, h1, h2, h3⟩
  · exact .inl h
  · exact .inr ⟨g, cap, cur, h1, Nat.le_trans hb h2, h3⟩
theorem Recs.low {R : Nat → Prop} {base b' : Nat} {w : World} {v : Value} {rs : List (List Nat)} (h : Recs R base w v rs) (hb : b' ≤ base) : Recs R b' w v rs := by
  obtain ⟨xs, ho, hx⟩ := h
  exact ⟨xs, owns_low' ho hb, hx⟩
def mfits (ask : Int) (lb b : Nat) : Bool := decide (ask ≤ (b : Int)) && decide (lb ≤ b)
set_option maxRecDepth 10000 in
set_option maxHeartbeats 4000000 in
theorem more_any {w : World} {g q p n last boot : Nat} {d : Dk} {segs : List Nat} (h : LogAt w g q segs n last boot) (hd : DiskAt w q p d) (hdead : d.dead = false) (hs : Has d segs) (ask : Int) (m : Nat) (hm : m = 8 * segs.length - n) :
    Calls Try.prog 20 #[.pointer (some ⟨g, 0, none⟩), .int .i64 ask] w fun r w' => ∃ v, r = .returned v ∧ Recs (fun b => w.heap.size ≤ b) w.heap.size w' v ((scan (mfits ask) (pl d segs) m last boot n m).map (·.2)) ∧
      LogAt w' g q segs (n + lenOf (scan (mfits ask) (pl d segs) m last boot n m)) (lastOf last (scan (mfits ask) (pl d segs) m last boot n m)) (bootOf boot (scan (mfits ask) (pl d segs) m last boot n m)) ∧ But (fun k => k = g) w w' := by
  have hlen := h.len
  have hg := h.glt
  have HB0 : Hid (Below w.heap.size w ((w.alloc (.cells #[.pointer (some ⟨g, 0, none⟩)] 31)).alloc (.cells #[.int .i64 ask] 3))) := ((Below.refl _ w).alloc (Nat.le_refl _) _).alloc (by simp) _
  have HL0 := hid (h.below HB0.out)
  have HD0 := hid (hd.below HB0.out)
  have y0 : ((w.alloc (.cells #[.pointer (some ⟨g, 0, none⟩)] 31)).alloc (.cells #[.int .i64 ask] 3)).cell? ⟨w.heap.size, 0, none⟩ = some (.pointer (some ⟨g, 0, none⟩)) := by
    have h1 := heap_alloc_new w (.cells #[.pointer (some ⟨g, 0, none⟩)] 31)
    have h2 := ((Below.refl _ (w.alloc (.cells #[.pointer (some ⟨g, 0, none⟩)] 31))).alloc (Nat.le_refl _) (.cells #[.int .i64 ask] 3)).block w.heap.size (by simp)
    rw [cell_of_row _ w.heap.size 0 _ 31 (0, 0) (h2.trans h1)]; rfl
  have y1 : ((w.alloc (.cells #[.pointer (some ⟨g, 0, none⟩)] 31)).alloc (.cells #[.int .i64 ask] 3)).cell? ⟨w.heap.size + 1, 0, none⟩ = some (.int .i64 ask) := by
    have h1 := heap_alloc_new (w.alloc (.cells #[.pointer (some ⟨g, 0, none⟩)] 31)) (.cells #[.int .i64 ask] 3)
    rw [show (w.alloc (.cells #[.pointer (some ⟨g, 0, none⟩)] 31)).heap.size = w.heap.size + 1 by simp] at h1
    rw [cell_of_row _ (w.heap.size + 1) 0 _ 3 (0, 0) h1]; rfl
  have hsz : ((w.alloc (.cells #[.pointer (some ⟨g, 0, none⟩)] 31)).alloc (.cells #[.int .i64 ask] 3)).heap.size = w.heap.size + 2 := by simp
  have HDE := hid hdead
  have HS := hid hs
  have HM := hid hm
  clear h hd hdead hs hm
  go_enter Try.func20, Try.ntmps20
  go_wp2_with fail
  generalize (w.alloc (.cells #[.pointer (some ⟨g, 0, none⟩)] 31)).alloc (.cells #[.int .i64 ask] 3) = W0 at *
  obtain ⟨a1, c1, hc1, _⟩ := HL0.out.c1
  have e8 : IntKind.i64.wrap ((segs.length : Int) * 8) = ((8 * segs.length : Nat) : Int) := by
    rw [show (segs.length : Int) * 8 = ((8 * segs.length : Nat) : Int) by omega]
    exact wrap_i64 _ (by omega)
  have HLq := hid (HL0.out.below (Below.drew (Below.refl _ W0)))
  have HDq := hid (HD0.out.below (Below.drew (Below.refl _ W0)))
  have HSCN := hid (scan_any HLq.out HDq.out HDE.out HS.out (8 * segs.length) m (Nat.le_refl _) HM.out (mfits ask) 39 #[.pointer (some ⟨w.heap.size + 1, 0, none⟩), .pointer (some ⟨w.heap.size, 0, none⟩)] call39 (fun W n' last' lb b hL hB _ => fits39 hL ask b ((hB.cell w.heap.size 0 (by show _ < W0.heap.size; omega) (by omega)).trans y0) ((hB.cell (w.heap.size + 1) 0 (by show _ < W0.heap.size; omega) (by omega)).trans y1)))
  rw [← e8] at HSCN
  clear e8 HLq HDq HD0
  obtain ⟨kk, hkk⟩ : ∃ kk, segs.length = kk := ⟨_, rfl⟩
  rw [hkk] at HSCN hc1 hlen
  clear hkk
  go_region_held (fun W => W.cell? ⟨w.heap.size, 0, none⟩ = some (.pointer (some ⟨g, 0, none⟩)) ∧ W.cell? ⟨g, 1, none⟩ = some (.slice a1 kk c1)) (first | exact ⟨y0, hc1⟩ | exact S2.out) (first
    | (go_at_call 37; refine HSCN.out.mono ?_; rintro r w1 ⟨v, rfl, hre, hL1, hb1, hcc⟩
       have S2 := hid (show w1.cell? ⟨w.heap.size, 0, none⟩ = some (.pointer (some ⟨g, 0, none⟩)) ∧ w1.cell? ⟨g, 1, none⟩ = some (.slice a1 kk c1) from ⟨(hb1.cell w.heap.size 0 (show w.heap.size < W0.heap.size by omega) (by omega)).trans y0, hcc.trans hc1⟩)
       have HQ := hid (And.intro hre (And.intro hL1 (but_of_drew hb1)))
       obtain ⟨a9, c9, rfl⟩ := hre.slice
       clear hre hL1 hb1 hcc))
  have HW := hid (HB0.out)
  go_wp2_with fail
  go_ret
  obtain ⟨h1, h2, h3⟩ := HQ.out
  have hz : W0.drew.heap.size = w.heap.size + 2 := hsz
  rw [List.length_map] at h1
  have h4 := (h1.low (b' := w.heap.size) (by omega)).mono (R' := fun b => w.heap.size ≤ b) (fun k e => by omega)
  exact ⟨_, rfl, h4, h2, (below_but (fun k => k = g) HB0.out).trans h3 (fun k e => .inl e)⟩
end Go.Proofs.Yteohjfhflodklaa
