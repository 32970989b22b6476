/- A log with its records, on a disk where nothing else lies: what Append, Load and More do to it. Condition: fewer than a million operations. -/
import Derived.Test.YteohjfhflodklaaLogU
import Derived.Test.YteohjfhflodklaaLawA
namespace Go.Proofs.Yteohjfhflodklaa
open Go.RowKit Pen
open Crc (four nx run)
/-- A log whose records are recs; elsewhere on the disk are noughts. -/
structure LogIs (w : World) (g q p x : Nat) (d : Dk) (k mm : Nat) (segs : List Nat) (recs : List (Nat × List Nat)) : Prop where
  sys : Lsys w g q p x d k mm segs (lenOf recs) (lastOf 0 recs) (bootOf 0 recs)
  at_ : At (pl d segs) 0 (lay 0 0 recs)
  ok : ∀ y ∈ recs, Ok y
  nodup : segs.Nodup
  blank : Blank d segs (lenOf recs)
  ops : d.ops ≤ lenOf recs + 100
  tight : segs.length = segsN (lenOf recs)
  whole : mm = segs.length
theorem Lsys.below {w w' : World} {g q p x : Nat} {d : Dk} {k mm : Nat} {segs : List Nat} {n last boot : Nat} (h : Lsys w g q p x d k mm segs n last boot) (hb : Below w.heap.size w w') : Lsys w' g q p x d k mm segs n last boot :=
  ⟨h.log.below hb, h.disk.below hb, h.space.below hb, h.dead, h.fuse, h.room, h.le, h.low, h.fit, h.few⟩
theorem LogIs.below {w w' : World} {g q p x : Nat} {d : Dk} {k mm : Nat} {segs : List Nat} {recs : List (Nat × List Nat)} (h : LogIs w g q p x d k mm segs recs) (hb : Below w.heap.size w w') : LogIs w' g q p x d k mm segs recs :=
  ⟨h.sys.below hb, h.at_, h.ok, h.nodup, h.blank, h.ops, h.tight, h.whole⟩
theorem nodup_more {segs : List Nat} {mm zt : Nat} (h : segs.Nodup) (hl : ∀ s ∈ segs, s < mm) : (segs ++ List.range' mm zt).Nodup := by
  refine List.nodup_append.2 ⟨h, List.nodup_range', fun a ha b hb e => ?_⟩
  obtain ⟨i, hi, rfl⟩ := List.mem_range'.1 hb
  have := hl a ha
  omega
theorem has_more {d : Dk} {segs : List Nat} {mm zt k : Nat} (hl : ∀ s ∈ segs, s < mm) (hk : mm + zt ≤ k) (h96 : k ≤ 96) (hr : 8 + 8 * k ≤ d.secs.length) : Has d (segs ++ List.range' mm zt) := fun s hs => by
  rcases List.mem_append.1 hs with hs | hs
  · have := hl s hs; omega
  · obtain ⟨i, hi, rfl⟩ := List.mem_range'.1 hs; omega
/-- What Append does to it. -/
def Put (g q p x : Nat) (d : Dk) (k mm : Nat) (segs : List Nat) (recs : List (Nat × List Nat)) (bt : Nat) (r : List Nat) (w w' : World) (z : Int) : Prop :=
  (z = 0 ∧ MayBe bt r ∧ lenOf recs + secsN r ≤ 8 * k ∧ But (fun j => j = q ∨ j = p ∨ j = x ∨ j = g) w w' ∧ ∃ zt, LogIs w' g q p x (lays d (segs ++ List.range' mm zt) (lenOf recs) (secsOf (lenOf recs) bt (mk (lastOf 0 recs) bt r))) k (mm + zt) (segs ++ List.range' mm zt) (recs ++ [(bt, r)]))
  ∨ (z = 1 ∧ ¬ MayBe bt r ∧ Below w.heap.size w w' ∧ LogIs w' g q p x d k mm segs recs)
  ∨ (z = 12 ∧ MayBe bt r ∧ ¬ lenOf recs + secsN r ≤ 8 * k ∧ Below w.heap.size w w' ∧ LogIs w' g q p x d k mm segs recs)
theorem put_any {w : World} {g q p x : Nat} {d : Dk} {k mm : Nat} {segs : List Nat} {recs : List (Nat × List Nat)} (h : LogIs w g q p x d k mm segs recs) (bt : Nat) (a : Option Addr) (r : List Nat) (l c : Nat) (hl : r.length = l) (hr : Row w a r) :
    Calls Try.prog 16 #[.pointer (some ⟨g, 0, none⟩), .pointer (some ⟨x, 0, none⟩), .int .i64 (bt : Int), .slice a l c] w fun e w' => ∃ z : Int, e = .returned (.int .i64 z) ∧ Put g q p x d k mm segs recs bt r w w' z := by
  have hnle := h.sys.log.nle
  by_cases hm : MayBe bt r
  · have hops := h.ops
    refine (append_yes h.sys bt a r l c hl hr hm (by omega)).mono ?_
    intro e w' hap
    unfold Appended at hap
    have ht := h.tight
    have hw := h.whole
    have hfit := h.sys.fit
    have hle := h.sys.le
    have hk := h.sys.space.le
    by_cases hc : segsN (lenOf recs + secsN r) ≤ segs.length + (k - mm)
    · rw [if_pos hc] at hap
      obtain ⟨rfl, hsy, hb⟩ := hap
      have hroom : lenOf recs + secsN r ≤ 8 * k := by unfold segsN at hc; omega
      obtain ⟨zt, hzt⟩ : ∃ zt, segsN (lenOf recs + secsN r) - segs.length = zt := ⟨_, rfl⟩
      rw [hzt] at hsy
      refine ⟨0, rfl, .inl ⟨rfl, hm, hroom, hb, zt, ?_⟩⟩
      have hnd := nodup_more (zt := zt) h.nodup h.sys.low
      have hlen : (segs ++ List.range' mm zt).length = segs.length + zt := by simp
      have hmz : mm + zt ≤ k := by rw [← hzt]; omega
      have hhas := has_more (d := d) h.sys.low hmz hk h.sys.room
      have hsl : (secsOf (lenOf recs) bt (mk (lastOf 0 recs) bt r)).length = secsN r := by rw [secsOf_len, mk_len]; rfl
      have hll : lenOf (recs ++ [(bt, r)]) = lenOf recs + secsN r := by rw [lenOf_app, lenOf_one]; rfl
      have hfit2 : lenOf recs + secsN r ≤ 8 * (segs ++ List.range' mm zt).length := by rw [hlen, ← hzt]; unfold segsN; omega
      have ht2 : segs.length + zt = segsN (lenOf recs + secsN r) := by rw [← hzt, ht]; unfold segsN; omega
      have hlast : lastOf 0 (recs ++ [(bt, r)]) = nx (lastOf 0 recs) r := by rw [lastOf_app]; rfl
      have hboot : bootOf 0 (recs ++ [(bt, r)]) = bt := by rw [bootOf_app]; rfl
      refine ⟨?_, at_append hnd hhas h.at_ hfit hfit2, fun y hy => ?_, hnd, ?_, ?_, ?_, ?_⟩
      · rw [hll, hlast, hboot]
        exact hsy
      · rcases List.mem_append.1 hy with hy | hy
        · exact h.ok y hy
        · simp at hy
          subst hy
          obtain ⟨m1, m2, m3, m4⟩ := hm
          exact ⟨by simp only; omega, m1, m2, hr.1⟩
      · rw [hll, ← hsl]
        exact blank_append hnd hhas h.blank hfit (by rw [hsl]; exact hfit2)
      · rw [(lays_facts d _ _ _).2.2.2, hsl, hll]
        omega
      · rw [hlen, hll]; exact ht2
      · rw [hlen, hw]
    · rw [if_neg hc] at hap
      exact ⟨12, hap.1, .inr (.inr ⟨rfl, hm, by unfold segsN at hc; omega, hap.2, h.below hap.2⟩)⟩
  · refine (append_no h.sys bt a r l c hl hm).mono ?_
    rintro e w' ⟨rfl, rfl⟩
    exact ⟨1, rfl, .inr (.inl ⟨rfl, hm, Below.refl _ _, h⟩)⟩
/-- Load of what Where tells finds the records. -/
theorem load_is {w : World} {g q p x : Nat} {d : Dk} {k mm : Nat} {segs : List Nat} {recs : List (Nat × List Nat)} (h : LogIs w g q p x d k mm segs recs) (a : Option Addr) (kk c : Nat) (hk : segs.length = kk) (hr : IRow w a (iv segs)) (hz : a = none → c = 0) :
    Calls Try.prog 18 #[.pointer (some ⟨q, 0, none⟩), .agg #[.slice a kk c, .int .i64 (lenOf recs : Nat), .int .u32 (lastOf 0 recs : Nat)]] w fun e w' => ∃ g' v, e = .returned (.tuple #[.pointer (some ⟨g', 0, none⟩), v, .int .i64 0]) ∧ w.heap.size ≤ g' ∧ LogAt w' g' q segs (lenOf recs) (lastOf 0 recs) (bootOf 0 recs) ∧ (∃ base, w.heap.size ≤ base ∧ Recs (fun b => base ≤ b) base w' v (recs.map (·.2))) ∧ Below w.heap.size w w' := by
  refine (load_any h.sys.disk h.sys.dead segs a kk c (lenOf recs) (lastOf 0 recs) hk hr h.sys.has (by rw [← hk]; exact h.sys.log.len) hz).mono ?_
  rintro e w' ⟨hb, hx⟩
  rw [scan_all h.ok h.at_] at hx
  rcases hx with ⟨_, _, _, g', v, rfl, h1, h2, h3⟩ | ⟨hn, _⟩
  · exact ⟨g', v, rfl, h1, h2, h3, hb⟩
  · exact absurd ⟨h.sys.fit, rfl, rfl⟩ hn
end Go.Proofs.Yteohjfhflodklaa
