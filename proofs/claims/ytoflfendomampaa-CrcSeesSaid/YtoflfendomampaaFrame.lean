/- What every walk over the laws of this seat leans on: parts of a slice, the contracts of 'Next', 'Sum', 'Bytes' in whatever later world, and how a slice of bytes that comes in is read. No condition but the lengths named. -/
import Derived.Test.YtoflfendomampaaRef
import Derived.Test.YtoflfendomampaaKnown
import Derived.Deep.RegionWith
import Derived.ProofKit
import Derived.OpenShut
import Derived.ShutString
import Derived.ChangeOld
namespace Go.Proofs.Ytoflfendomampaa
open Go.ChangeShapes Go.WideShapes Go.ChangeAt Go.RowKit Crc
def fromA (a : Option Addr) (k cap : Nat) : Option Addr := if cap = k then a else a.map (·.add k)
theorem row_take {w : World} {a : Option Addr} {l : List Nat} (h : Row w a l) (k : Nat) : Row w a (l.take k) := by
  refine ⟨fun x hx => h.1 x (List.mem_of_mem_take hx), ?_⟩
  rcases h.2 with h2 | ⟨b, off, ha, hlt, hc⟩
  · exact .inl (by rw [h2]; simp)
  · refine .inr ⟨b, off, ha, hlt, fun i hi => ?_⟩
    have hi' : i < l.length ∧ i < k := by simp at hi; omega
    rw [hc i hi'.1]
    simp [hi'.2]
theorem row_drop {w : World} {a : Option Addr} {l : List Nat} (h : Row w a l) (k cap : Nat) (hcap : l.length ≤ cap) : Row w (fromA a k cap) (l.drop k) := by
  refine ⟨fun x hx => h.1 x (List.mem_of_mem_drop hx), ?_⟩
  rcases h.2 with h2 | ⟨b, off, ha, hlt, hc⟩
  · exact .inl (by rw [h2]; simp)
  · by_cases hk : cap = k
    · exact .inl (List.drop_of_length_le (by omega))
    · refine .inr ⟨b, off + k, ?_, hlt, fun i hi => ?_⟩
      · subst ha
        simp only [fromA, if_neg hk, Option.map_some, Addr.add]
        split
        · next h => rw [h]; rfl
        · rfl
      · have hi' : k + i < l.length := by simp at hi; omega
        rw [Nat.add_assoc, hc (k + i) hi']
        simp
theorem elem22 : Try.prog.elem 22 = 5 := by kernel_rfl
theorem size5 (w : World) : (sizeOf 5).run Try.prog w = .ok 1 w := by kernel_rfl
theorem addr_add0 (a : Addr) : a.add 0 = a := by unfold Addr.add; simp
theorem slice_to (w : World) (a : Option Addr) (n cap k : Nat) (hk : k ≤ cap) : (Instr.slice 22 (.slice a n cap) none (some (.int .i64 (k : Int))) none).run Try.prog w = .ok (.slice a k cap) w := by
  rw [run_slice_h (ht := (by rw [elem22]; exact Try.underlying22 : Try.prog.underlying 22 = some (.slice (Try.prog.elem 22)))) (kh := .i64) (h := (k : Int)) (h0 := by omega) (h2 := by omega), elem22, size5]
  simp [sliced, Result.andThen, addr_add0]
theorem slice_from (w : World) (a : Option Addr) (n cap k : Nat) (hk : k ≤ n) : (Instr.slice 22 (.slice a n cap) (some (.int .i64 (k : Int))) none none).run Try.prog w = .ok (.slice (fromA a k cap) (n - k) (cap - k)) w := by
  rw [run_slice_l (ht := (by rw [elem22]; exact Try.underlying22 : Try.prog.underlying 22 = some (.slice (Try.prog.elem 22)))) (kl := .i64) (l := (k : Int)) (h0 := by omega) (h1 := by omega), elem22, size5]
  simp [sliced, Result.andThen, fromA]

theorem sum_at {w W : World} {a : Option Addr} {l : List Nat} {n cap : Nat} (hn : l.length = n) (hr : Row w a l) (hl : l.length ≤ 1000000) (hW : Below w.heap.size w W) :
    Calls Try.prog 9 #[.slice a n cap] W fun e w' => e = .returned (.int .u32 (nx 0 l : Nat)) ∧ Below w.heap.size w w' := by
  subst hn
  exact (sum_any a l cap W (hr.below hW) hl).mono fun e w' ⟨he, hb⟩ => ⟨he, hW.trans (hb.mono hW.size)⟩
theorem next_at {w W : World} {a : Option Addr} {l : List Nat} {n cap : Nat} (c : Nat) (hc : c < 4294967296) (hn : l.length = n) (hr : Row w a l) (hl : l.length ≤ 1000000) (hW : Below w.heap.size w W) :
    Calls Try.prog 11 #[.int .u32 (c : Int), .slice a n cap] W fun e w' => e = .returned (.int .u32 (nx c l : Nat)) ∧ Below w.heap.size w w' := by
  subst hn
  exact (next_any c hc a l cap W (hr.below hW) hl).mono fun e w' ⟨he, hb⟩ => ⟨he, hW.trans (hb.mono hW.size)⟩
theorem ref_at {w W : World} {a : Option Addr} {l : List Nat} {n cap : Nat} (c : Nat) (hc : c < 4294967296) (hn : l.length = n) (hr : Row w a l) (hl : l.length ≤ 1000000) (hW : Below w.heap.size w W) :
    Calls Try.prog 10 #[.int .u32 (c : Int), .slice a n cap] W fun e w' => e = .returned (.int .u32 (nx c l : Nat)) ∧ Below w.heap.size w w' := by
  subst hn
  exact (ref_any c hc a l cap W (hr.below hW) hl).mono fun e w' ⟨he, hb⟩ => ⟨he, by rw [hb]; exact hW⟩

theorem bytes_at {w W : World} (c : Nat) (hc : c < 4294967296) (hW : Below w.heap.size w W) :
    Calls Try.prog 12 #[.int .u32 (c : Int)] W fun e w' => ∃ g, e = .returned (.slice (some ⟨g, 0, none⟩) 4 4) ∧ Below w.heap.size w w' ∧ Below W.heap.size W w' ∧ Below w'.heap.size w' w' ∧ Row w' (some ⟨g, 0, none⟩) (four c) := by
  refine (bytes_any c hc W).mono fun e w' ⟨he, hw⟩ => ⟨W.heap.size, he, ?_⟩
  subst hw
  exact ⟨hW.alloc hW.size _, (Below.refl _ _).alloc (Nat.le_refl _) _, Below.refl _ _, row_new W _ (four_lt hc) 5⟩
theorem four_at {w W : World} (c : Nat) (hc : c < 4294967296) (hW : Below w.heap.size w W) :
    Calls Try.prog 13 #[.int .u32 (c : Int)] W fun e w' => ∃ g, e = .returned (.slice (some ⟨g, 0, none⟩) 4 4) ∧ Below w.heap.size w w' ∧ Below W.heap.size W w' ∧ Below w'.heap.size w' w' ∧ Row w' (some ⟨g, 0, none⟩) (four c) := by
  refine (four_any c hc W).mono fun e w' ⟨he, hw⟩ => ⟨W.heap.size, he, ?_⟩
  subst hw
  exact ⟨hW.alloc hW.size _, (Below.refl _ _).alloc (Nat.le_refl _) _, Below.refl _ _, row_new W _ (four_lt hc) 5⟩
theorem str_at {w : World} {a : Option Addr} {l : List Nat} {n cap : Nat} (hr : Row w a l) (hn : l.length = n) (hne : l ≠ []) : ∀ W, Below w.heap.size w W → (convert 22 9 (.slice a n cap)).run Try.prog W = .ok (.string (strOf l)) W := by
  subst hn
  exact fun W hW => str_any W a l cap (hr.below hW) hne

theorem own : ownKnob Try.prog.godebug = none := by kernel_rfl
theorem laidOut : laidOutB Try.prog = true := by kernel_rfl

/-- What the walk is told of a slice of integers that came in. -/
def IsRow (k : IntKind) (w : World) (a : Option Addr) (len cap : Nat) (zs : List Int) : Prop :=
  (a = none ∧ len = 0 ∧ cap = 0 ∧ zs = []) ∨
  ∃ x, a = some x ∧ len ≤ cap ∧ cap ≤ maxLen ∧ zs.length = cap ∧ (∀ i, i < zs.length → w.cell? (x.add i) = some (.int k (zs.getD i 0))) ∧ ∀ n ∈ zs, (Lit.int k n).wf = true
theorem nat_u8 {z : Int} (h : (Lit.int .u8 z).wf = true) : 0 ≤ z ∧ z < 256 := by have := bounds_u8 h; omega
theorem nat_u16 {z : Int} (h : (Lit.int .u16 z).wf = true) : ∃ n : Nat, z = (n : Int) ∧ n < 65536 := by
  have := bounds_u16 h
  exact ⟨z.toNat, by omega, by omega⟩
theorem nat_u32 {z : Int} (h : (Lit.int .u32 z).wf = true) : ∃ n : Nat, z = (n : Int) ∧ n < 4294967296 := by
  have := bounds_u32 h
  exact ⟨z.toNat, by omega, by omega⟩
theorem bytes_of {w : World} {a : Option Addr} {len cap : Nat} {zs : List Int} (h : IsRow .u8 w a len cap zs) : ∃ l : List Nat, l.length = len ∧ Row w a l ∧ len ≤ cap ∧ cap ≤ maxLen := by
  rcases h with ⟨rfl, rfl, rfl, rfl⟩ | ⟨x, rfl, hl, hm, hz, hcell, hwz⟩
  · exact ⟨[], rfl, row_nil w, Nat.le_refl _, Nat.zero_le _⟩
  · refine ⟨(zs.take len).map Int.toNat, by simp; omega, ⟨?_, ?_⟩, hl, hm⟩
    · intro n hn
      obtain ⟨z, hz1, rfl⟩ := List.mem_map.1 hn
      have := nat_u8 (hwz z (List.mem_of_mem_take hz1))
      omega
    · by_cases h0 : len = 0
      · subst h0; exact .inl (by simp)
      · obtain ⟨b, off, spot⟩ := x
        have hc := hcell 0 (by omega)
        have hspot : spot = none := by simpa [Addr.add] using World.cell?_spot hc
        subst hspot
        refine .inr ⟨b, off, rfl, ?_, fun i hi => ?_⟩
        · have := block_lt_of_cell hc
          simpa [Addr.add] using this
        · have hi1 : i < len := by simp at hi; omega
          have hadd : (⟨b, off, none⟩ : Addr).add i = ⟨b, off + i, none⟩ := by unfold Addr.add; split <;> simp_all
          have h1 := hcell i (by omega)
          rw [hadd] at h1
          rw [h1]
          have hzi : i < zs.length := by omega
          have hb := nat_u8 (hwz _ (List.getElem_mem hzi))
          simp [List.getElem?_eq_getElem hzi, hi1, Int.toNat_of_nonneg hb.1]
end Go.Proofs.Ytoflfendomampaa
