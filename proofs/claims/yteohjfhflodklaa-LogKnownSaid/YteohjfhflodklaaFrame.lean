/- What every row's step of this seat leans on: how a slice that comes in is read. No condition. -/
import Derived.Test.YteohjfhflodklaaDiskM
namespace Go.Proofs.Yteohjfhflodklaa
open Go.ChangeShapes Go.WideShapes Go.ChangeAt Go.RowKit
theorem own : ownKnob Try.prog.godebug = none := by kernel_rfl
theorem laidOut : laidOutB Try.prog = true := by kernel_rfl
/-- What the walk is told of a slice of integers that came in. -/
def IsRow (k : IntKind) (w : World) (a : Option Addr) (len cap : Nat) (zs : List Int) : Prop :=
  (a = none ∧ len = 0 ∧ cap = 0 ∧ zs = []) ∨
  ∃ x, a = some x ∧ len ≤ cap ∧ cap ≤ maxLen ∧ zs.length = cap ∧ (∀ i, i < zs.length → w.cell? (x.add i) = some (.int k (zs.getD i 0))) ∧ ∀ n ∈ zs, (Lit.int k n).wf = true
theorem nat_u8 {z : Int} (h : (Lit.int .u8 z).wf = true) : 0 ≤ z ∧ z < 256 := by have := bounds_u8 h; omega
theorem bytes_of {w : World} {a : Option Addr} {len cap : Nat} {zs : List Int} (h : IsRow .u8 w a len cap zs) : ∃ l : List Nat, l.length = len ∧ Row w a l ∧ len ≤ cap ∧ cap ≤ maxLen := by
  rcases h with ⟨rfl, rfl, rfl, rfl⟩ | ⟨x, rfl, hl, hm, hz, hcell, hwz⟩
  · exact ⟨[], rfl, row_nil w _, Nat.le_refl _, Nat.zero_le _⟩
  · refine ⟨(zs.take len).map Int.toNat, by simp; omega, ⟨?_, ?_⟩, hl, hm⟩
    · intro n hn
      obtain ⟨z, hz1, rfl⟩ := List.mem_map.1 hn
      have := nat_u8 (hwz z (List.mem_of_mem_take hz1))
      omega
    · by_cases h0 : len = 0
      · subst h0; exact .inl (by simp)
      · obtain ⟨b, off, spot⟩ := x
        have hc := hcell 0 (by omega)
        have hspot : spot = none := by simpa [Addr.add] using World.cell?_spot hc
        subst hspot
        refine .inr ⟨b, off, rfl, ?_, fun i hi => ?_⟩
        · have := block_lt_of_cell hc
          simpa [Addr.add] using this
        · have hi1 : i < len := by simp at hi; omega
          have hadd : (⟨b, off, none⟩ : Addr).add i = ⟨b, off + i, none⟩ := by unfold Addr.add; split <;> simp_all
          have h1 := hcell i (by omega)
          rw [hadd] at h1
          rw [h1]
          have hzi : i < zs.length := by omega
          have hb := nat_u8 (hwz _ (List.getElem_mem hzi))
          simp [List.getElem?_eq_getElem hzi, hi1, Int.toNat_of_nonneg hb.1]
def fromA (a : Option Addr) (k cap : Nat) : Option Addr := if cap = k then a else a.map (·.add k)
theorem row_take {w : World} {a : Option Addr} {l : List Nat} (h : Row w a l) (k : Nat) : Row w a (l.take k) := by
  refine ⟨fun x hx => h.1 x (List.mem_of_mem_take hx), ?_⟩
  rcases h.2 with h2 | ⟨b, off, ha, hlt, hc⟩
  · exact .inl (by rw [h2]; simp)
  · refine .inr ⟨b, off, ha, hlt, fun i hi => ?_⟩
    have hi' : i < l.length ∧ i < k := by simp at hi; omega
    rw [hc i hi'.1]
    simp [hi'.2]
theorem row_drop {w : World} {a : Option Addr} {l : List Nat} (h : Row w a l) (k cap : Nat) (hcap : l.length ≤ cap) : Row w (fromA a k cap) (l.drop k) := by
  refine ⟨fun x hx => h.1 x (List.mem_of_mem_drop hx), ?_⟩
  rcases h.2 with h2 | ⟨b, off, ha, hlt, hc⟩
  · exact .inl (by rw [h2]; simp)
  · by_cases hk : cap = k
    · exact .inl (List.drop_of_length_le (by omega))
    · refine .inr ⟨b, off + k, ?_, hlt, fun i hi => ?_⟩
      · subst ha
        simp only [fromA, if_neg hk, Option.map_some, Addr.add]
        split
        · next h => rw [h]; rfl
        · rfl
      · have hi' : k + i < l.length := by simp at hi; omega
        rw [Nat.add_assoc, hc (k + i) hi']
        simp
/-- What a row of bytes says as a text, in whatever later world. -/
theorem str_at {w' : World} {g n cap : Nat} {l : List Nat} (hr : Row w' (some ⟨g, 0, none⟩) l) (hn : l.length = n) : ∀ W, Below w'.heap.size w' W → (convert 40 9 (.slice (some ⟨g, 0, none⟩) n cap)).run Try.prog W = .ok (.string (strOf l)) W :=
  fun W hb => str_any W _ l n cap hn (hr.below hb)
end Go.Proofs.Yteohjfhflodklaa
