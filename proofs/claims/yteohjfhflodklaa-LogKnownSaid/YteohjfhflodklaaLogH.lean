/- What lies of log does. Condition: segments that there are. -/
import Derived.Test.YteohjfhflodklaaLogG
namespace Go.Proofs.Yteohjfhflodklaa
open Go.RowKit Pen
set_option maxRecDepth 4000
/-- The disk has these segments. -/
def Has (d : Dk) (segs : List Nat) : Prop := ∀ s ∈ segs, s < 96 ∧ 16 + 8 * s ≤ d.secs.length
set_option maxHeartbeats 2000000 in
theorem lies_any {w : World} {q p : Nat} {d : Dk} (h : DiskAt w q p d) (segs : List Nat) (a : Option Addr) (k c : Nat) (L last : Nat) (hk : segs.length = k) (hr : IRow w a (iv segs)) (hs : Has d segs) (hk1 : k ≤ 96) :
    Calls Try.prog 36 #[.pointer (some ⟨q, 0, none⟩), .agg #[.slice a k c, .int .i64 (L : Int), .int .u32 (last : Int)]] w fun e w' => e = .returned (.bool (decide (L ≤ 8 * k))) ∧ Below w.heap.size w w' := by
  have HD0 : Hid (Below w.heap.size w (w.alloc (.cells #[.slice a k c, .int .i64 (L : Int), .int .u32 (last : Int)] 36))) := (Below.refl _ w).alloc (Nat.le_refl _) _
  have HD := hid (h.below HD0.out)
  have HR := hid (hr.below HD0.out)
  have hst : (w.alloc (.cells #[.slice a k c, .int .i64 (L : Int), .int .u32 (last : Int)] 36)).heap[w.heap.size]? = some (.cells #[.slice a k c, .int .i64 (L : Int), .int .u32 (last : Int)] 36 (0, 0)) := heap_alloc_new w _
  have hlen := h.ok.2
  have HS := hid hs
  have HK := hid hk
  clear h hr hs hk
  go_enter Try.func36, Try.ntmps36
  go_wp2_with fail
  generalize w.alloc (.cells #[.slice a k c, .int .i64 (L : Int), .int .u32 (last : Int)] 36) = W0 at *
  have k0 : W0.cell? ⟨w.heap.size, 0, none⟩ = some (.slice a k c) := by rw [cell_of_row W0 _ 0 _ 36 (0, 0) hst]; rfl
  have k1 : W0.cell? ⟨w.heap.size, 1, none⟩ = some (.int .i64 (L : Int)) := by rw [cell_of_row W0 _ 1 _ 36 (0, 0) hst]; rfl
  clear hst
  refine (sectors_any HD.out).mono ?_
  rintro e w1 ⟨rfl, rfl⟩
  go_wp2_with fail
  refine (Sp.segs_any _ (d.secs.length : Int) (by omega)).mono ?_
  rintro e w2 ⟨rfl, rfl⟩
  have HM : Hid (∀ i, i < k → 0 ≤ ((segs.getD i 0 : Nat) : Int) ∧ ((segs.getD i 0 : Nat) : Int) < (if (d.secs.length : Int) < 8 then 0 else min (((d.secs.length : Int) - 8) / 8) 96)) := fun i hi => by
    have hm : segs.getD i 0 ∈ segs := by simp [HK.out, hi]
    have := HS.out _ hm
    rw [if_neg (by omega)]
    omega
  generalize hM : (if (d.secs.length : Int) < 8 then 0 else min (((d.secs.length : Int) - 8) / 8) 96) = M at *
  have HX := hid hM
  clear hM
  go_wp2_with fail
  go_loopg [14] k (fun gk v14 wr => ∃ i : Nat, i + gk = k ∧ v14 = .int .i64 (i : Int) ∧ wr = w2)
  case atStart => exact ⟨0, by omega, rfl, rfl⟩
  case round =>
    obtain ⟨i, hi, rfl, rfl⟩ := hrel
    by_cases hlt : i < k
    · have hlt' : (i : Int) < (k : Int) := by omega
      obtain ⟨b, off, rfl, _, hc⟩ := HR.out.cell (by intro e; have := iv_len segs; rw [e, HK.out] at this; simp at this; omega)
      have hc1 := hc i (by rw [iv_len, HK.out]; exact hlt)
      rw [iv_get] at hc1
      obtain ⟨m1, m2⟩ := HM.out i hlt
      generalize hz : ((segs.getD i 0 : Nat) : Int) = z at *
      have m3 : ¬ z < 0 := by omega
      have m4 : ¬ M ≤ z := by omega
      clear hc hz
      go_wp2_with fail
      go_roundg (gk - 1)
      case measure => omega
      case rel => exact ⟨i + 1, by omega, by go_num, rfl⟩
    · have hlt' : ¬ (i : Int) < (k : Int) := by omega
      go_wp2_with fail
      go_ret
      refine ⟨?_, HD0.out⟩
      congr 2
      simp
      omega
end Go.Proofs.Yteohjfhflodklaa
