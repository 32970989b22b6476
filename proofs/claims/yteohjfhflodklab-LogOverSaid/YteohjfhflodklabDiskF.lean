/- What a disk's Spoil does. Condition: at least one byte, at most a million; the bytes do not lie in the disk itself. -/
import Derived.Test.YteohjfhflodklabDiskE
namespace Go.Proofs.Yteohjfhflodklab
open Go.RowKit
set_option maxRecDepth 4000
/-- The row does not lie in block p. -/
def Apart (a : Option Addr) (p : Nat) : Prop := ∀ x, a = some x → x.block ≠ p
theorem Row.apart {w w' : World} {a : Option Addr} {l : List Nat} (h : Row w a l) {q p : Nat} (h1 : Apart a q) (h2 : Apart a p) (ho : Only q (some p) w w') : Row w' a l := by
  refine ⟨h.1, ?_⟩
  rcases h.2 with h3 | ⟨b, off, ha, hlt, hc⟩
  · exact .inl h3
  · refine .inr ⟨b, off, ha, Nat.lt_of_lt_of_le hlt ho.size, fun i hi => ?_⟩
    have := ho.block b hlt (h1 _ ha) (fun e => h2 _ ha (by simpa using e))
    rw [← hc i hi]
    simp only [World.cell?, this]
theorem Row.apart_q {w : World} {q p : Nat} {d : Dk} {a : Option Addr} {l : List Nat} (h : Row w a l) (hd : DiskAt w q p d) (hl : l ≠ []) : Apart a q := by
  obtain ⟨b, off, rfl, hc⟩ := h.cell hl
  intro x hx
  simp at hx
  subst hx
  intro e
  change b = q at e
  subst e
  obtain ⟨z, h1, _⟩ := hd
  have h3 := hc 0 (List.length_pos_iff.2 hl)
  rw [cell_of_row w b _ _ 52 (0, 0) h1] at h3
  rcases off with _ | _ | _ | _ | _ | off <;> simp at h3
end Go.Proofs.Yteohjfhflodklab
