/- How a slice of deeds that comes in is read. No condition. -/
import Derived.Test.YtoniolndoidkcaaGrid
import Derived.Lib.SmallJoins
namespace Go.Proofs.Ytoniolndoidkcaa
open Go.ChangeShapes Go.WideShapes Go.ChangeAt Go.RowKit Go.Deep
structure Dd where
  do_ : Int
  n : Int
  at_ : Int
  b : List Nat
  a : Option Addr
  c : Nat
def dd0 : Dd := ⟨0, 0, 0, [], none, 0⟩
def i64 (z : Int) : Prop := -9223372036854775808 ≤ z ∧ z < 9223372036854775808
/-- The deeds ls lie where the slice that begins at a leads. -/
def Deeds (w : World) (a : Option Addr) (ls : List Dd) : Prop :=
  ls = [] ∨ ∃ b off, a = some ⟨b, off, none⟩ ∧ b < w.heap.size ∧ ∀ i, i < ls.length →
    w.cell? ⟨b, off + i * 4, none⟩ = some (.int .i64 (ls.getD i dd0).do_) ∧ w.cell? ⟨b, off + i * 4 + 1, none⟩ = some (.int .i64 (ls.getD i dd0).n) ∧ w.cell? ⟨b, off + i * 4 + 2, none⟩ = some (.int .i64 (ls.getD i dd0).at_) ∧
    w.cell? ⟨b, off + i * 4 + 3, none⟩ = some (.slice (ls.getD i dd0).a (ls.getD i dd0).b.length (ls.getD i dd0).c) ∧ Row w (ls.getD i dd0).a (ls.getD i dd0).b ∧ i64 (ls.getD i dd0).n
theorem Deeds.at_ {w : World} {a : Option Addr} {ls : List Dd} (h : Deeds w a ls) (hne : ls ≠ []) : ∃ b off, a = some ⟨b, off, none⟩ ∧ b < w.heap.size ∧ ∀ i, i < ls.length →
    w.cell? ⟨b, off + i * 4, none⟩ = some (.int .i64 (ls.getD i dd0).do_) ∧ w.cell? ⟨b, off + i * 4 + 1, none⟩ = some (.int .i64 (ls.getD i dd0).n) ∧ w.cell? ⟨b, off + i * 4 + 2, none⟩ = some (.int .i64 (ls.getD i dd0).at_) ∧
    w.cell? ⟨b, off + i * 4 + 3, none⟩ = some (.slice (ls.getD i dd0).a (ls.getD i dd0).b.length (ls.getD i dd0).c) ∧ Row w (ls.getD i dd0).a (ls.getD i dd0).b ∧ i64 (ls.getD i dd0).n := by
  rcases h with h | ⟨b, off, ha, hlt, hc⟩
  · exact absurd h hne
  · exact ⟨b, off, ha, hlt, hc⟩
theorem deed_of {H : Type} {enc : TypeId × Value → H} {w : World} {fuel : Nat} {cs : List Value} {x : DataW H × List MemPlace} (h : DataW.trod enc Try.prog w 0 (fun _ => true) true fuel 33 cs = some x) :
    ∃ d : Dd, cs = [.int .i64 d.do_, .int .i64 d.n, .int .i64 d.at_, .slice d.a d.b.length d.c] ∧ Row w d.a d.b ∧ i64 d.n := by
  obtain ⟨y0, y1, y2, y3, m, _, hlen, e0, e1, e2, e3⟩ := Joins.trod_struct4 Try.underlying33 h
  have hc33 : Try.prog.cellsOf 33 = 4 := by kernel_rfl
  have hc3 : Try.prog.cellsOf 3 = 1 := by kernel_rfl
  have hc23 : Try.prog.cellsOf 23 = 1 := by kernel_rfl
  rw [hc33] at hlen
  obtain ⟨c0, c1, c2, c3, rfl⟩ : ∃ a b c d, cs = [a, b, c, d] := by
    match cs, hlen with
    | [a, b, c, d], _ => exact ⟨a, b, c, d, rfl⟩
  dsimp only at e0 e1 e2 e3
  rw [hc3] at e0 e1 e2
  rw [hc23] at e3
  change DataW.trod enc Try.prog w 0 _ true m 3 [c0] = some y0 at e0
  change DataW.trod enc Try.prog w 0 _ true m 3 [c1] = some y1 at e1
  change DataW.trod enc Try.prog w 0 _ true m 3 [c2] = some y2 at e2
  change DataW.trod enc Try.prog w 0 _ true m 23 [c3] = some y3 at e3
  obtain ⟨z0, q0, _, w0⟩ := DataW.trod_int Try.underlying3 e0
  obtain ⟨z1, q1, _, w1⟩ := DataW.trod_int Try.underlying3 e1
  obtain ⟨z2, q2, _, w2⟩ := DataW.trod_int Try.underlying3 e2
  have q0' : c0 = _ := List.head_eq_of_cons_eq q0
  have q1' : c1 = _ := List.head_eq_of_cons_eq q1
  have q2' : c2 = _ := List.head_eq_of_cons_eq q2
  subst q0' q1' q2'
  have hi : ∃ a len cap zs, c3 = .slice a len cap ∧ IsRow .u8 w a len cap zs := by
    rcases open_ints Try.underlying23 Try.underlying5 (by kernel_rfl) e3 with ⟨hcs, _⟩ | ⟨x, l, c, zs, hcs, _, hl, hm, hz, _, hcell, hwz⟩
    · simp at hcs
      exact ⟨none, 0, 0, [], hcs, .inl ⟨rfl, rfl, rfl, rfl⟩⟩
    · simp at hcs
      exact ⟨some x, l, c, zs, hcs, .inr ⟨_, rfl, hl, hm, by simpa using hz, hcell, hwz⟩⟩
  obtain ⟨a, len, cap, zs, rfl, hi⟩ := hi
  obtain ⟨l, hl, hr, _⟩ := bytes_of hi
  have hb := bounds_i64 w1
  exact ⟨⟨z0, z1, z2, l, a, cap⟩, by rw [hl], hr, ⟨hb.1, (show z1 < 9223372036854775808 by have := hb.2; omega)⟩⟩
theorem deeds_of {H : Type} {enc : TypeId × Value → H} {w : World} {fuel : Nat} {a : Option Addr} {len cap : Nat} {x : DataW H × List MemPlace} (h : DataW.trod enc Try.prog w 0 (fun _ => true) true fuel 22 (Value.slice a len cap).cells.toList = some x) :
    ∃ ls : List Dd, ls.length = len ∧ Deeds w a ls := by
  have hc33 : Try.prog.cellsOf 33 = 4 := by kernel_rfl
  rcases open_slice Try.underlying22 h with ⟨hcs, _⟩ | ⟨y, l, c, m, n, D, Pl, hcs, _, hl, hm, hmm, _, hx⟩
  · simp [Value.cells] at hcs
    obtain ⟨rfl, rfl, rfl⟩ := hcs
    exact ⟨[], rfl, .inl rfl⟩
  · simp [Value.cells] at hcs
    obtain ⟨rfl, rfl, rfl⟩ := hcs
    simp only [if_true] at hmm
    subst hmm
    rw [hc33] at hx
    have hrow : ∀ r, ∃ d : Dd, r < len → w.cell? (y.add (r * 4)) = some (.int .i64 d.do_) ∧ w.cell? ((y.add (r * 4)).add 1) = some (.int .i64 d.n) ∧ w.cell? ((y.add (r * 4)).add 2) = some (.int .i64 d.at_) ∧ w.cell? ((y.add (r * 4)).add 3) = some (.slice d.a d.b.length d.c) ∧ Row w d.a d.b ∧ i64 d.n := by
      intro r
      by_cases hlt : r < len
      · obtain ⟨cs', h1, h2⟩ := hx r (by omega)
        obtain ⟨d, rfl, hr, hn⟩ := deed_of h2
        refine ⟨d, fun _ => ?_⟩
        unfold World.cells? at h1
        rw [if_pos (Nat.zero_le _)] at h1
        have g0 := mapM_some_get h1 0 0 rfl
        have g1 := mapM_some_get h1 1 1 rfl
        have g2 := mapM_some_get h1 2 2 rfl
        have g3 := mapM_some_get h1 3 3 rfl
        have ea : (y.add (r * 4)).add 0 = y.add (r * 4) := by simp [Addr.add]
        rw [ea] at g0
        exact ⟨g0, g1, g2, g3, hr, hn⟩
      · exact ⟨dd0, fun h => absurd h hlt⟩
    obtain ⟨f, hf⟩ := Classical.axiomOfChoice hrow
    refine ⟨(List.range len).map f, by simp, ?_⟩
    by_cases h0 : len = 0
    · subst h0; exact .inl (by simp)
    · obtain ⟨b, off, spot⟩ := y
      have hc0 := (hf 0 (by omega)).1
      have hspot : spot = none := by simpa [Addr.add] using World.cell?_spot hc0
      subst hspot
      refine .inr ⟨b, off, rfl, ?_, fun i hi => ?_⟩
      · have := block_lt_of_cell hc0
        simpa [Addr.add] using this
      · have hi1 : i < len := by simpa using hi
        have hg : ((List.range len).map f).getD i dd0 = f i := by simp [hi1]
        have hadd : ∀ j, (⟨b, off, none⟩ : Addr).add j = ⟨b, off + j, none⟩ := fun j => Addr.add_mid b off j
        have h5 := hf i hi1
        rw [hadd, Addr.add_mid, Addr.add_mid, Addr.add_mid] at h5
        rw [hg]
        exact h5
end Go.Proofs.Ytoniolndoidkcaa
