/- The document's example of a Space comes out true (the statements' own 'awake'). No condition. -/
import Derived.Test.YtgnjhakakgkbaaaSpB
namespace Go.Proofs.Ytgnjhakakgkbaaa
open Go.RowKit
theorem Below.drewN' {b : Nat} {w w' : World} (h : Below b w w') (n : Nat) : Below b w (w'.drewN n) := ⟨h.os, h.tape, h.output, h.size, h.block⟩
theorem Only.low {q : Nat} {w w' : World} {base : Nat} (h : Only q none w w') (hq : base ≤ q) (hb : base ≤ w.heap.size) : Below base w w' :=
  h.below hq (fun k e => by simp at e) hb
set_option maxHeartbeats 2000000 in
theorem awake_any (w : World) : Calls Try.prog 8 #[] w fun e w' => e = .returned (.bool true) ∧ Below w.heap.size w w' := by
  go_enter Try.func8, Try.ntmps8
  go_wp2_with fail
  refine (new_any _ 2 2 (by decide)).mono ?_
  rintro e w1 ⟨q, rfl, hs, hb, hq⟩
  have HS := hid hs
  have HB := hid hb
  have HQ := hid hq
  clear hs hb hq
  go_wp2_with fail
  refine (take_any HS.out).mono ?_
  rintro e w2 ⟨hd, ho⟩
  obtain ⟨i, rfl, hl, hs2⟩ : ∃ i : Nat, e = .returned (.tuple #[.int .i64 (i : Int), .bool true]) ∧ Least z96 2 i ∧ SpAt w2 q 2 (z96.set i true) := by
    rcases hd with h | ⟨_, hf, _⟩
    · exact h
    · have := hf 0 (by decide)
      rw [z96_get] at this
      cases this
  obtain rfl : i = 0 := by
    rcases i with _ | i
    · rfl
    · have := hl.2.2 0 (by omega)
      rw [z96_get] at this
      cases this
  have HB2 := hid (HB.out.trans (ho.low HQ.out HB.out.size))
  have HS2 := hid hs2
  clear hd hl hs2 ho
  go_wp2_with fail
  refine (segs_any _ 17 (by decide)).mono ?_
  rintro e w3 ⟨rfl, rfl⟩
  rw [show (if (17 : Int) < 8 then (0 : Int) else min ((17 - 8) / 8) 96) = 1 by decide]
  go_wp2_with fail
  refine (free_any HS2.out).mono ?_
  rintro e w4 ⟨rfl, n, rfl⟩
  rw [show nfree (z96.set 0 true) 2 = 1 by decide]
  have HB4 := hid (Below.drewN' HB2.out n)
  generalize w3.drewN n = w4 at HB4 ⊢
  go_wp2_with fail
  refine (first_any _ 0).mono ?_
  rintro e w5 ⟨rfl, rfl⟩
  rw [show (if (0 : Int) ≤ 0 ∧ (0 : Int) < 96 then 8 + 0 * 8 else (-1 : Int)) = 8 by decide]
  go_wp2_with fail
  go_ret
  exact ⟨rfl, HB4.out⟩
end Go.Proofs.Ytgnjhakakgkbaaa
