/- How pairs, rows of pairs, rows of small numbers and rows of rows of bytes come in. No condition. -/
import Derived.Test.YtccahhehbpahoaaLaw
import Derived.Deep.Matrix
import Derived.Laws.IdiomArrays
namespace Go.Proofs.Ytccahhehbpahoaa
open Go.ChangeShapes Go.WideShapes Go.ChangeAt Go.RowKit Go.Deep
set_option maxRecDepth 4000
set_option linter.unusedVariables false
theorem two_of {α : Type} : ∀ (l : List α), l.length = 2 → ∃ a b, l = [a, b]
  | [a, b], _ => ⟨a, b, rfl⟩
  | [], h => by simp at h
  | [_], h => by simp at h
  | _ :: _ :: _ :: _, h => by simp at h
theorem pair_of {H : Type} {enc : TypeId × Value → H} {W : World} {base : Nat} {t e : TypeId} {k : IntKind} {v : Value} {d : DataW H} {p : List MemPlace} (hu : Try.prog.underlying t = some (.array 2 e)) (hct : Try.prog.cellsOf t = 2) (hce : Try.prog.cellsOf e = 1) (hue : Try.prog.underlying e = some (.int k))
    (hok : Value.okWide Try.prog W .any base t v) (h : DataW.Trod enc Try.prog W 0 (fun _ => true) true t v d p) : ∃ x y : Int, v = .agg #[.int k x, .int k y] ∧ (Lit.int k x).wf = true ∧ (Lit.int k y).wf = true := by
  obtain ⟨cs, rfl, hsz, _⟩ : ∃ cs, v = .agg cs ∧ cs.size = Try.prog.cellsOf t ∧ Row.okWide Try.prog W .any base t cs := by
    simpa [Value.okWide, hu] using hok
  rw [hct] at hsz
  obtain ⟨l⟩ := cs
  obtain ⟨c0, c1, rfl⟩ := two_of l hsz
  obtain ⟨fuel, hf⟩ := h
  obtain ⟨xs, m, rfl, _, _, hxs, hx⟩ := DataW.trod_array hu hf
  obtain ⟨y0, y1, rfl⟩ := two_of xs hxs
  have e0 := hx 0 (by decide)
  have e1 := hx 1 (by decide)
  rw [hce] at e0 e1
  simp [Value.cells] at e0 e1
  obtain ⟨z0, q0, _, w0⟩ := DataW.trod_int hue e0
  obtain ⟨z1, q1, _, w1⟩ := DataW.trod_int hue e1
  have r0 : c0 = _ := List.head_eq_of_cons_eq q0
  have r1 : c1 = _ := List.head_eq_of_cons_eq q1
  exact ⟨z0, z1, by rw [r0, r1], w0, w1⟩
theorem take_snoc {α : Type} [Inhabited α] (ls : List α) (i : Nat) (d : α) (hi : i < ls.length) : ls.take (i + 1) = ls.take i ++ [ls.getD i d] := by
  rw [List.take_add_one, List.getElem?_eq_getElem hi]
  simp [List.getD_eq_getElem?_getD, hi]
theorem grid_of {H : Type} {enc : TypeId × Value → H} {w : World} {fuel : Nat} {a : Option Addr} {len cap : Nat} {x : DataW H × List MemPlace} (h : DataW.trod enc Try.prog w 0 (fun _ => true) true fuel 48 (Value.slice a len cap).cells.toList = some x) :
    ∃ ls : List (List Nat), ls.length = len ∧ Grid w a ls := by
  rcases open_int_rows Try.underlying48 Try.underlying54 Try.underlying5 (by kernel_rfl) (by kernel_rfl) h with ⟨hcs, _⟩ | ⟨y, l, c, A, L, C, Z, hcs, _, hl, hm, _, hr⟩
  · simp [Value.cells] at hcs
    obtain ⟨rfl, rfl, rfl⟩ := hcs
    exact ⟨[], rfl, .inl rfl⟩
  · simp [Value.cells] at hcs
    obtain ⟨rfl, rfl, rfl⟩ := hcs
    have hrow : ∀ r, ∃ l : List Nat, r < len → l.length = L r ∧ Row w (A r) l := by
      intro r
      by_cases hlt : r < len
      · obtain ⟨_, h2, h3, h4, h5, h6, h7⟩ := hr r (by omega)
        have hi : IsRow .u8 w (A r) (L r) (C r) (Z r) := by
          cases hA : A r with
          | none =>
            have := h6 hA
            exact .inl ⟨rfl, by omega, this, List.length_eq_zero_iff.1 (by omega)⟩
          | some z => exact .inr ⟨z, rfl, h2, h3, h4, fun i hi => (h7 z hA).2 i (by omega), h5⟩
        obtain ⟨l, hl1, hl2, _⟩ := bytes_of hi
        exact ⟨l, fun _ => ⟨hl1, hl2⟩⟩
      · exact ⟨[], fun h => absurd h hlt⟩
    obtain ⟨f, hf⟩ := Classical.axiomOfChoice hrow
    refine ⟨(List.range len).map f, by simp, ?_⟩
    by_cases h0 : len = 0
    · subst h0; exact .inl (by simp)
    · obtain ⟨b, off, spot⟩ := y
      have hc0 := (hr 0 (by omega)).1
      have hspot : spot = none := by simpa [Addr.add] using World.cell?_spot hc0
      subst hspot
      refine .inr ⟨b, off, rfl, ?_, fun i hi => ?_⟩
      · have := block_lt_of_cell hc0
        simpa [Addr.add] using this
      · have hi1 : i < len := by simpa using hi
        have hg : ((List.range len).map f).getD i [] = f i := by simp [hi1]
        have hadd : (⟨b, off, none⟩ : Addr).add i = ⟨b, off + i, none⟩ := by unfold Addr.add; split <;> simp_all
        have h1 := (hr i (by omega)).1
        rw [hadd] at h1
        obtain ⟨h2, h3⟩ := hf i hi1
        rw [hg, h2]
        exact ⟨A i, C i, h1, h3⟩
theorem grid_len {H : Type} {enc : TypeId × Value → H} {w : World} {fuel : Nat} {a : Option Addr} {len cap : Nat} {x : DataW H × List MemPlace} (h : DataW.trod enc Try.prog w 0 (fun _ => true) true fuel 48 (Value.slice a len cap).cells.toList = some x) : len ≤ maxLen := by
  rcases open_int_rows Try.underlying48 Try.underlying54 Try.underlying5 (by kernel_rfl) (by kernel_rfl) h with ⟨hcs, _⟩ | ⟨y, l, c, A, L, C, Z, hcs, _, hl, hm, _, hr⟩
  · simp [Value.cells] at hcs
    omega
  · simp [Value.cells] at hcs
    omega
/-- The i-th row. -/
theorem Grid.get {w : World} {a : Option Addr} {ls : List (List Nat)} (h : Grid w a ls) {i : Nat} (hi : i < ls.length) : ∃ b off, a = some ⟨b, off, none⟩ ∧ ∃ ai ci, w.cell? ⟨b, off + i, none⟩ = some (.slice ai (ls.getD i []).length ci) ∧ Row w ai (ls.getD i []) := by
  obtain ⟨b, off, ha, hc⟩ := h.at_ (by intro e; rw [e] at hi; simp at hi)
  exact ⟨b, off, ha, hc i hi⟩
/-- A number of a row of numbers. -/
theorem owns_cell {w : World} {base : Nat} {v : Value} {L : List Int} {n : Nat} (hn : L.length = n) (h : w.ownsRow base 3 1 v n (ivals L)) {i : Nat} (hi : i < n) : ∃ g cap, v = .slice (some ⟨g, 0, none⟩) n cap ∧ w.cell? ⟨g, i, none⟩ = some (.int .i64 (L.getD i 0)) ∧ g < w.heap.size := by
  subst hn
  rcases h.2 with ⟨_, h0⟩ | ⟨g, cap, cur, rfl, hb, hg, hc, hm, hs, ht⟩
  · rw [h0] at hi; exact absurd hi (Nat.not_lt_zero _)
  · refine ⟨g, cap, rfl, ?_, lt_of_some hg⟩
    rw [cell_of_row w g i cur 3 (0, 0) hg]
    have := ivals_get L i hi
    rw [← ht, Nat.mul_one, List.getElem?_take, if_pos hi] at this
    simpa using this
theorem owns_shape {w : World} {base t n : Nat} {v : Value} {xs : List Value} (h : w.ownsRow base t 1 v n xs) : ∃ a cap, v = .slice a n cap ∧ (n = 0 ∨ a ≠ none) := by
  rcases h.2 with ⟨rfl, rfl⟩ | ⟨g, cap, cur, rfl, _⟩
  · exact ⟨none, 0, rfl, .inl rfl⟩
  · exact ⟨_, cap, rfl, .inr (by simp)⟩
theorem three_of {α : Type} : ∀ (l : List α), l.length = 3 → ∃ a b c, l = [a, b, c]
  | [a, b, c], _ => ⟨a, b, c, rfl⟩
  | [], h => by simp at h
  | [_], h => by simp at h
  | [_, _], h => by simp at h
  | _ :: _ :: _ :: _ :: _, h => by simp at h
theorem trip_of {H : Type} {enc : TypeId × Value → H} {W : World} {base : Nat} {t e : TypeId} {k : IntKind} {v : Value} {d : DataW H} {p : List MemPlace} (hu : Try.prog.underlying t = some (.array 3 e)) (hct : Try.prog.cellsOf t = 3) (hce : Try.prog.cellsOf e = 1) (hue : Try.prog.underlying e = some (.int k))
    (hok : Value.okWide Try.prog W .any base t v) (h : DataW.Trod enc Try.prog W 0 (fun _ => true) true t v d p) : ∃ x y z : Int, v = .agg #[.int k x, .int k y, .int k z] ∧ (Lit.int k x).wf = true ∧ (Lit.int k y).wf = true ∧ (Lit.int k z).wf = true := by
  obtain ⟨cs, rfl, hsz, _⟩ : ∃ cs, v = .agg cs ∧ cs.size = Try.prog.cellsOf t ∧ Row.okWide Try.prog W .any base t cs := by
    simpa [Value.okWide, hu] using hok
  rw [hct] at hsz
  obtain ⟨l⟩ := cs
  obtain ⟨c0, c1, c2, rfl⟩ := three_of l hsz
  obtain ⟨fuel, hf⟩ := h
  change DataW.trod enc Try.prog W 0 (fun _ => true) true fuel t [c0, c1, c2] = some (d, p) at hf
  obtain ⟨y0, y1, y2, n, _, e0, e1, e2⟩ := trod_array3 hu hce hf
  obtain ⟨z0, q0, _, w0⟩ := DataW.trod_int hue e0
  obtain ⟨z1, q1, _, w1⟩ := DataW.trod_int hue e1
  obtain ⟨z2, q2, _, w2⟩ := DataW.trod_int hue e2
  have r0 : c0 = _ := List.head_eq_of_cons_eq q0
  have r1 : c1 = _ := List.head_eq_of_cons_eq q1
  have r2 : c2 = _ := List.head_eq_of_cons_eq q2
  exact ⟨z0, z1, z2, by rw [r0, r1, r2], w0, w1, w2⟩
/-- Small numbers in a row. -/
def URow (w : World) (a : Option Addr) (l : List Int) : Prop :=
  (∀ x ∈ l, 0 ≤ x ∧ x < 65536) ∧ (l = [] ∨ ∃ b off, a = some ⟨b, off, none⟩ ∧ b < w.heap.size ∧ ∀ i, i < l.length → w.cell? ⟨b, off + i, none⟩ = some (.int .u16 (l.getD i 0)))
theorem URow.later {w : World} {a : Option Addr} {l : List Int} (h : URow w a l) {i : Nat} (hi : i < l.length) : ∃ b off, a = some ⟨b, off, none⟩ ∧ 0 ≤ l.getD i 0 ∧ l.getD i 0 < 65536 ∧ ∀ W, Below w.heap.size w W → W.cell? ⟨b, off + i, none⟩ = some (.int .u16 (l.getD i 0)) := by
  have hm := h.1 (l.getD i 0) (by rw [List.getD_eq_getElem?_getD, List.getElem?_eq_getElem hi]; exact List.getElem_mem hi)
  rcases h.2 with h2 | ⟨b, off, ha, hlt, hc⟩
  · rw [h2] at hi; simp at hi
  · exact ⟨b, off, ha, hm.1, hm.2, fun W hW => (hW.cell (p := ⟨b, off + i, none⟩) hlt).trans (hc i hi)⟩
theorem urow_of {H : Type} {enc : TypeId × Value → H} {w : World} {fuel : Nat} {a : Option Addr} {len cap : Nat} {x : DataW H × List MemPlace} (h : DataW.trod enc Try.prog w 0 (fun _ => true) true fuel 64 (Value.slice a len cap).cells.toList = some x) :
    ∃ l : List Int, l.length = len ∧ URow w a l := by
  rcases open_ints Try.underlying64 Try.underlying50 (by kernel_rfl) h with ⟨hcs, _⟩ | ⟨x, l, c, zs, hcs, _, hl, hm, hz, _, hcell, hwz⟩
  · simp [Value.cells] at hcs
    obtain ⟨rfl, rfl, rfl⟩ := hcs
    exact ⟨[], rfl, by simp, .inl rfl⟩
  · simp [Value.cells] at hcs
    obtain ⟨rfl, rfl, rfl⟩ := hcs
    simp only [if_true] at hz
    refine ⟨zs.take len, by simp; omega, fun z hz1 => ?_, ?_⟩
    · have := bounds_u16 (hwz z (List.mem_of_mem_take hz1))
      omega
    · by_cases h0 : len = 0
      · subst h0; exact .inl (by simp)
      · obtain ⟨b, off, spot⟩ := x
        have hc := hcell 0 (by omega)
        have hspot : spot = none := by simpa [Addr.add] using World.cell?_spot hc
        subst hspot
        refine .inr ⟨b, off, rfl, ?_, fun i hi => ?_⟩
        · have := block_lt_of_cell hc
          simpa [Addr.add] using this
        · have hi1 : i < len := by simp at hi; omega
          have h1 := hcell i (by omega)
          rw [Addr.add_mid] at h1
          rw [h1]
          simp [hi1]
/-- Pairs of small numbers in a row. -/
def ARow (w : World) (a : Option Addr) (l : List (Int × Int)) : Prop :=
  (∀ x ∈ l, 0 ≤ x.1 ∧ x.1 < 65536 ∧ 0 ≤ x.2 ∧ x.2 < 65536) ∧ (l = [] ∨ ∃ b off, a = some ⟨b, off, none⟩ ∧ b < w.heap.size ∧ ∀ i, i < l.length → w.cell? ⟨b, off + i * 2, none⟩ = some (.int .u16 (l.getD i (0, 0)).1) ∧ w.cell? ⟨b, off + i * 2 + 1, none⟩ = some (.int .u16 (l.getD i (0, 0)).2))
theorem ARow.later {w : World} {a : Option Addr} {l : List (Int × Int)} (h : ARow w a l) {i : Nat} (hi : i < l.length) : ∃ b off, a = some ⟨b, off, none⟩ ∧ (0 ≤ (l.getD i (0, 0)).1 ∧ (l.getD i (0, 0)).1 < 65536 ∧ 0 ≤ (l.getD i (0, 0)).2 ∧ (l.getD i (0, 0)).2 < 65536) ∧ ∀ W, Below w.heap.size w W → W.cell? ⟨b, off + i * 2, none⟩ = some (.int .u16 (l.getD i (0, 0)).1) ∧ W.cell? ⟨b, off + i * 2 + 1, none⟩ = some (.int .u16 (l.getD i (0, 0)).2) := by
  have hm := h.1 (l.getD i (0, 0)) (by rw [List.getD_eq_getElem?_getD, List.getElem?_eq_getElem hi]; exact List.getElem_mem hi)
  rcases h.2 with h2 | ⟨b, off, ha, hlt, hc⟩
  · rw [h2] at hi; simp at hi
  · exact ⟨b, off, ha, hm, fun W hW => ⟨(hW.cell (p := ⟨b, off + i * 2, none⟩) hlt).trans (hc i hi).1, (hW.cell (p := ⟨b, off + i * 2 + 1, none⟩) hlt).trans (hc i hi).2⟩⟩
theorem arow_of {H : Type} {enc : TypeId × Value → H} {w : World} {fuel : Nat} {a : Option Addr} {len cap : Nat} {x : DataW H × List MemPlace} (h : DataW.trod enc Try.prog w 0 (fun _ => true) true fuel 49 (Value.slice a len cap).cells.toList = some x) :
    ∃ l : List (Int × Int), l.length = len ∧ ARow w a l := by
  have hc51 : Try.prog.cellsOf 51 = 2 := by kernel_rfl
  have hc50 : Try.prog.cellsOf 50 = 1 := by kernel_rfl
  rcases open_slice Try.underlying49 h with ⟨hcs, _⟩ | ⟨y, l, c, m, n, D, Pl, hcs, _, hl, hm, hmm, _, hx⟩
  · simp [Value.cells] at hcs
    obtain ⟨rfl, rfl, rfl⟩ := hcs
    exact ⟨[], rfl, by simp, .inl rfl⟩
  · simp [Value.cells] at hcs
    obtain ⟨rfl, rfl, rfl⟩ := hcs
    simp only [if_true] at hmm
    subst hmm
    rw [hc51] at hx
    have hrow : ∀ r, ∃ d : Int × Int, (0 ≤ d.1 ∧ d.1 < 65536 ∧ 0 ≤ d.2 ∧ d.2 < 65536) ∧ (r < len → w.cell? (y.add (r * 2)) = some (.int .u16 d.1) ∧ w.cell? ((y.add (r * 2)).add 1) = some (.int .u16 d.2)) := by
      intro r
      by_cases hlt : r < len
      · obtain ⟨cs', h1, h2⟩ := hx r (by omega)
        have hl2 : cs'.length = 2 := by
          unfold World.cells? at h1
          rw [if_pos (Nat.zero_le _)] at h1
          have := mapM_some_length h1
          simpa using this
        obtain ⟨c0, c1, rfl⟩ := two_of cs' hl2
        obtain ⟨xs, m2, _, _, _, hxs, hx2⟩ := DataW.trod_array Try.underlying51 h2
        obtain ⟨y0, y1, rfl⟩ := two_of xs hxs
        have e0 := hx2 0 (by decide)
        have e1 := hx2 1 (by decide)
        rw [hc50] at e0 e1
        simp at e0 e1
        obtain ⟨z0, q0, _, w0⟩ := DataW.trod_int Try.underlying50 e0
        obtain ⟨z1, q1, _, w1⟩ := DataW.trod_int Try.underlying50 e1
        have r0 : c0 = _ := List.head_eq_of_cons_eq q0
        have r1 : c1 = _ := List.head_eq_of_cons_eq q1
        have b0 := bounds_u16 w0
        have b1 := bounds_u16 w1
        unfold World.cells? at h1
        rw [if_pos (Nat.zero_le _)] at h1
        have g0 := mapM_some_get h1 0 0 rfl
        have g1 := mapM_some_get h1 1 1 rfl
        have ea : (y.add (r * 2)).add 0 = y.add (r * 2) := by simp [Addr.add]
        rw [ea] at g0
        refine ⟨(z0, z1), by simp only; omega, fun _ => ⟨?_, ?_⟩⟩
        · rw [← r0]; exact g0
        · rw [← r1]; exact g1
      · exact ⟨(0, 0), by decide, fun h => absurd h hlt⟩
    obtain ⟨f, hf⟩ := Classical.axiomOfChoice hrow
    refine ⟨(List.range len).map f, by simp, fun x hx => ?_, ?_⟩
    · obtain ⟨i, _, rfl⟩ := List.mem_map.1 hx
      exact (hf i).1
    by_cases h0 : len = 0
    · subst h0; exact .inl (by simp)
    · obtain ⟨b, off, spot⟩ := y
      have hc0 := ((hf 0).2 (by omega)).1
      have hspot : spot = none := by simpa [Addr.add] using World.cell?_spot hc0
      subst hspot
      refine .inr ⟨b, off, rfl, ?_, fun i hi => ?_⟩
      · have := block_lt_of_cell hc0
        simpa [Addr.add] using this
      · have hi1 : i < len := by simpa using hi
        have hg : ((List.range len).map f).getD i (0, 0) = f i := by simp [hi1]
        have h5 := (hf i).2 hi1
        rw [Addr.add_mid, Addr.add_mid] at h5
        rw [hg]
        exact h5
end Go.Proofs.Ytccahhehbpahoaa
