/- What every row's step of this seat leans on. No condition. -/
import Derived.Test.YtgnjhakakgkbaaaAwake
import Derived.Deep.Grids
import Derived.Lib.SmallJoins
import Derived.Deep.Matrix
namespace Go.Proofs.Ytgnjhakakgkbaaa
open Go.ChangeShapes Go.WideShapes Go.ChangeAt Go.RowKit Go.Deep
theorem own : ownKnob Try.prog.godebug = none := by kernel_rfl
theorem laidOut : laidOutB Try.prog = true := by kernel_rfl
/-- A row of one-celled things: where the slice that begins at a leads, i by i. -/
def RowOf {α : Type} (f : α → Value) (w : World) (a : Option Addr) (l : List α) : Prop :=
  l = [] ∨ ∃ b off, a = some ⟨b, off, none⟩ ∧ b < w.heap.size ∧ ∀ i x, l[i]? = some x → w.cell? ⟨b, off + i, none⟩ = some (f x)
theorem RowOf.below {α : Type} {f : α → Value} {w w' : World} {a : Option Addr} {l : List α} (h : RowOf f w a l) (hb : Below w.heap.size w w') : RowOf f w' a l := by
  rcases h with h | ⟨b, off, ha, hlt, hc⟩
  · exact .inl h
  · exact .inr ⟨b, off, ha, Nat.lt_of_lt_of_le hlt hb.size, fun i x hx => (hb.cell (p := ⟨b, off + i, none⟩) hlt).trans (hc i x hx)⟩
abbrev BoolRow := RowOf Value.bool
abbrev ByteRow := RowOf (fun n : Fin 256 => Value.int .u8 ((n : Nat) : Int))
theorem RowOf.at_ {α : Type} {f : α → Value} {w : World} {a : Option Addr} {l : List α} (h : RowOf f w a l) (hne : l ≠ []) : ∃ b off, a = some ⟨b, off, none⟩ ∧ b < w.heap.size ∧ ∀ i x, l[i]? = some x → w.cell? ⟨b, off + i, none⟩ = some (f x) := by
  rcases h with h | h
  · exact absurd h hne
  · exact h
theorem rowOf_mk {α : Type} {f : α → Value} {w : World} {x : Addr} {l : List α} (h : ∀ i y, l[i]? = some y → w.cell? (x.add i) = some (f y)) : RowOf f w (some x) l := by
  by_cases h0 : l = []
  · exact .inl h0
  · obtain ⟨b, off, spot⟩ := x
    obtain ⟨y, hy⟩ : ∃ y, l[0]? = some y := ⟨_, List.getElem?_eq_getElem (List.length_pos_iff.2 h0)⟩
    have hc := h 0 y hy
    have hspot : spot = none := by simpa [Addr.add] using World.cell?_spot hc
    subst hspot
    refine .inr ⟨b, off, rfl, ?_, fun i y hy => ?_⟩
    · have := block_lt_of_cell hc
      simpa [Addr.add] using this
    · have := h i y hy
      rwa [Addr.add_mid] at this
theorem bytes_of {H : Type} {enc : TypeId × Value → H} {w : World} {fuel : Nat} {a : Option Addr} {len cap : Nat} {x : DataW H × List MemPlace} (h : DataW.trod enc Try.prog w 0 (fun _ => true) true fuel 39 (Value.slice a len cap).cells.toList = some x) :
    ∃ l : List (Fin 256), l.length = len ∧ ByteRow w a l := by
  rcases open_ints Try.underlying39 Try.underlying5 (by kernel_rfl) h with ⟨hcs, _⟩ | ⟨x, l, c, zs, hcs, _, hl, hm, hz, _, hcell, hwz⟩
  · simp [Value.cells] at hcs
    obtain ⟨rfl, rfl, rfl⟩ := hcs
    exact ⟨[], rfl, .inl rfl⟩
  · simp [Value.cells] at hcs
    obtain ⟨rfl, rfl, rfl⟩ := hcs
    have hb : ∀ z ∈ zs, ∃ n : Fin 256, ((n : Nat) : Int) = z := fun z hz => by
      have := bounds_u8 (hwz z hz)
      exact ⟨⟨z.toNat, by omega⟩, by simp; omega⟩
    simp only [if_true] at hz
    have hlen : len ≤ zs.length := by omega
    refine ⟨(zs.take len).map fun z => if h : ∃ n : Fin 256, ((n : Nat) : Int) = z then h.choose else 0, by simp; omega, rowOf_mk fun i y hy => ?_⟩
    rw [List.getElem?_map, List.getElem?_take] at hy
    by_cases hi : i < len
    · have hi2 : i < zs.length := by omega
      rw [if_pos hi, List.getElem?_eq_getElem hi2] at hy
      have hex := hb _ (List.getElem_mem hi2)
      simp only [Option.map_some, Option.some.injEq] at hy
      rw [dif_pos hex] at hy
      have h1 := hcell i hi2
      rw [h1, List.getD_eq_getElem?_getD, List.getElem?_eq_getElem hi2]
      simp only [Option.getD_some, Option.some.injEq]
      rw [← hy, hex.choose_spec]
    · rw [if_neg hi] at hy
      cases hy
theorem bools_of {H : Type} {enc : TypeId × Value → H} {w : World} {fuel : Nat} {a : Option Addr} {len cap : Nat} {x : DataW H × List MemPlace} (h : DataW.trod enc Try.prog w 0 (fun _ => true) true fuel 26 (Value.slice a len cap).cells.toList = some x) :
    ∃ l : List Bool, l.length = len ∧ BoolRow w a l := by
  rcases open_bools Try.underlying26 Try.underlying4 (by kernel_rfl) h with ⟨hcs, _⟩ | ⟨x, l, c, B, hcs, _, hl, hm, _, hcell⟩
  · simp [Value.cells] at hcs
    obtain ⟨rfl, rfl, rfl⟩ := hcs
    exact ⟨[], rfl, .inl rfl⟩
  · simp [Value.cells] at hcs
    obtain ⟨rfl, rfl, rfl⟩ := hcs
    refine ⟨(List.range len).map B, by simp, rowOf_mk fun i y hy => ?_⟩
    rw [List.getElem?_map] at hy
    by_cases hi : i < len
    · simp [hi] at hy
      rw [hcell i (by omega), hy]
    · simp [hi] at hy
/-- The deeds l lie where the slice that begins at a leads. -/
def DeedRow (w : World) (a : Option Addr) (l : List (Int × Int)) : Prop :=
  l = [] ∨ ∃ b off, a = some ⟨b, off, none⟩ ∧ b < w.heap.size ∧ ∀ i x, l[i]? = some x → w.cell? ⟨b, off + i * 2, none⟩ = some (.int .i64 x.1) ∧ w.cell? ⟨b, off + i * 2 + 1, none⟩ = some (.int .i64 x.2) ∧ (Lit.int .i64 x.2).wf = true
theorem deed_of {H : Type} {enc : TypeId × Value → H} {w : World} {fuel : Nat} {cs : List Value} {x : DataW H × List MemPlace} (h : DataW.trod enc Try.prog w 0 (fun _ => true) true fuel 28 cs = some x) :
    ∃ d : Int × Int, cs = [.int .i64 d.1, .int .i64 d.2] ∧ (Lit.int .i64 d.2).wf = true := by
  obtain ⟨y0, y1, m, _, hlen, e0, e1⟩ := Go.ChangeShapes.trod_struct2 Try.underlying28 h
  have hc28 : Try.prog.cellsOf 28 = 2 := by kernel_rfl
  have hc3 : Try.prog.cellsOf 3 = 1 := by kernel_rfl
  rw [hc28] at hlen
  obtain ⟨c0, c1, rfl⟩ : ∃ a b, cs = [a, b] := by
    match cs, hlen with
    | [a, b], _ => exact ⟨a, b, rfl⟩
  dsimp only at e0 e1
  rw [hc3] at e0 e1
  change DataW.trod enc Try.prog w 0 _ true m 3 [c0] = some y0 at e0
  change DataW.trod enc Try.prog w 0 _ true m 3 [c1] = some y1 at e1
  obtain ⟨z0, q0, _, w0⟩ := DataW.trod_int Try.underlying3 e0
  obtain ⟨z1, q1, _, w1⟩ := DataW.trod_int Try.underlying3 e1
  have q0' : c0 = _ := List.head_eq_of_cons_eq q0
  have q1' : c1 = _ := List.head_eq_of_cons_eq q1
  subst q0' q1'
  exact ⟨(z0, z1), rfl, w1⟩
theorem deeds_of {H : Type} {enc : TypeId × Value → H} {w : World} {fuel : Nat} {a : Option Addr} {len cap : Nat} {x : DataW H × List MemPlace} (h : DataW.trod enc Try.prog w 0 (fun _ => true) true fuel 22 (Value.slice a len cap).cells.toList = some x) :
    ∃ l : List (Int × Int), l.length = len ∧ DeedRow w a l := by
  have hc28 : Try.prog.cellsOf 28 = 2 := by kernel_rfl
  rcases open_slice Try.underlying22 h with ⟨hcs, _⟩ | ⟨y, l, c, m, n, D, Pl, hcs, _, hl, hm, hmm, _, hx⟩
  · simp [Value.cells] at hcs
    obtain ⟨rfl, rfl, rfl⟩ := hcs
    exact ⟨[], rfl, .inl rfl⟩
  · simp [Value.cells] at hcs
    obtain ⟨rfl, rfl, rfl⟩ := hcs
    simp only [if_true] at hmm
    subst hmm
    rw [hc28] at hx
    have hrow : ∀ r, ∃ d : Int × Int, r < len → w.cell? (y.add (r * 2)) = some (.int .i64 d.1) ∧ w.cell? ((y.add (r * 2)).add 1) = some (.int .i64 d.2) ∧ (Lit.int .i64 d.2).wf = true := by
      intro r
      by_cases hlt : r < len
      · obtain ⟨cs', h1, h2⟩ := hx r (by omega)
        obtain ⟨d, rfl, hn⟩ := deed_of h2
        refine ⟨d, fun _ => ?_⟩
        unfold World.cells? at h1
        rw [if_pos (Nat.zero_le _)] at h1
        have g0 := mapM_some_get h1 0 0 rfl
        have g1 := mapM_some_get h1 1 1 rfl
        have ea : (y.add (r * 2)).add 0 = y.add (r * 2) := by simp [Addr.add]
        rw [ea] at g0
        exact ⟨g0, g1, hn⟩
      · exact ⟨(0, 0), fun h => absurd h hlt⟩
    obtain ⟨f, hf⟩ := Classical.axiomOfChoice hrow
    refine ⟨(List.range len).map f, by simp, ?_⟩
    by_cases h0 : len = 0
    · subst h0; exact .inl (by simp)
    · obtain ⟨b, off, spot⟩ := y
      have hc0 := (hf 0 (by omega)).1
      have hspot : spot = none := by simpa [Addr.add] using World.cell?_spot hc0
      subst hspot
      refine .inr ⟨b, off, rfl, ?_, fun i x hx => ?_⟩
      · have := block_lt_of_cell hc0
        simpa [Addr.add] using this
      · rw [List.getElem?_map] at hx
        by_cases hi : i < len
        · simp [hi] at hx
          have h5 := hf i hi
          rw [Addr.add_mid, Addr.add_mid] at h5
          rw [← hx]
          exact h5
        · simp [hi] at hx
end Go.Proofs.Ytgnjhakakgkbaaa
