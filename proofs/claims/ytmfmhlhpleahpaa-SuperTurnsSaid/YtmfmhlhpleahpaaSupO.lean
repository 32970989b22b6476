/- How a slot that comes in is read. No condition. -/
import Derived.Test.YtmfmhlhpleahpaaSupN
import Derived.Lib.SmallJoins
import Derived.Deep.Strs
namespace Go.Proofs.Ytmfmhlhpleahpaa
open Go.ChangeShapes Go.WideShapes Go.ChangeAt Go.RowKit Go.Deep
set_option maxRecDepth 10000
theorem ints_of {H : Type} {enc : TypeId × Value → H} {w : World} {fuel : Nat} {v : Value} {x : DataW H × List MemPlace} (h : DataW.trod enc Try.prog w 0 (fun _ => true) true fuel 22 [v] = some x) :
    ∃ a n c, ∃ l : List Int, v = .slice a n c ∧ l.length = n ∧ IRow w a l ∧ n ≤ maxLen := by
  rcases open_ints Try.underlying22 Try.underlying3 (by kernel_rfl) h with ⟨hcs, _⟩ | ⟨x, l, c, zs, hcs, _, hl, hm, hz, _, hcell, hwz⟩
  · simp at hcs
    exact ⟨none, 0, 0, [], hcs, rfl, .inl rfl, Nat.zero_le _⟩
  · simp at hcs
    simp only [if_true] at hz
    refine ⟨some x, l, c, zs.take l, hcs, by simp; omega, ?_, by omega⟩
    by_cases h0 : l = 0
    · subst h0; exact .inl (by simp)
    · obtain ⟨b, off, spot⟩ := x
      have hc := hcell 0 (by omega)
      have hspot : spot = none := by simpa [Addr.add] using World.cell?_spot hc
      subst hspot
      refine .inr ⟨b, off, rfl, ?_, fun i hi => ?_⟩
      · have := block_lt_of_cell hc
        simpa [Addr.add] using this
      · have hi1 : i < l := by simp at hi; omega
        have h1 := hcell i (by omega)
        rw [Addr.add_mid] at h1
        rw [h1]
        simp [hi1]
theorem log_of {H : Type} {enc : TypeId × Value → H} {w : World} {fuel : Nat} {cs : List Value} {x : DataW H × List MemPlace} (h : DataW.trod enc Try.prog w 0 (fun _ => true) true fuel 25 cs = some x) :
    ∃ a n c, ∃ l : List Int, ∃ z : Int, ∃ k : Nat, cs = [.slice a n c, .int .i64 z, .int .u32 (k : Int)] ∧ l.length = n ∧ IRow w a l ∧ n ≤ maxLen ∧ k < 4294967296 := by
  obtain ⟨y0, y1, y2, m, _, hlen, e0, e1, e2⟩ := trod_struct3 Try.underlying25 h
  have hc25 : Try.prog.cellsOf 25 = 3 := by kernel_rfl
  have hc22 : Try.prog.cellsOf 22 = 1 := by kernel_rfl
  have hc3 : Try.prog.cellsOf 3 = 1 := by kernel_rfl
  have hc23 : Try.prog.cellsOf 23 = 1 := by kernel_rfl
  rw [hc25] at hlen
  obtain ⟨c0, c1, c2, rfl⟩ : ∃ a b c, cs = [a, b, c] := by
    match cs, hlen with
    | [a, b, c], _ => exact ⟨a, b, c, rfl⟩
  dsimp only at e0 e1 e2
  rw [hc22] at e0
  rw [hc3] at e1
  rw [hc23] at e2
  change DataW.trod enc Try.prog w 0 _ true m 22 [c0] = some y0 at e0
  change DataW.trod enc Try.prog w 0 _ true m 3 [c1] = some y1 at e1
  change DataW.trod enc Try.prog w 0 _ true m 23 [c2] = some y2 at e2
  obtain ⟨a, n, c, l, rfl, hl, hr, hm⟩ := ints_of e0
  obtain ⟨z1, q1, _, w1⟩ := DataW.trod_int Try.underlying3 e1
  obtain ⟨z2, q2, _, w2⟩ := DataW.trod_int Try.underlying23 e2
  have q1' : c1 = _ := List.head_eq_of_cons_eq q1
  have q2' : c2 = _ := List.head_eq_of_cons_eq q2
  subst q1' q2'
  have hb := bounds_u32 w2
  exact ⟨a, n, c, l, z1, z2.toNat, by rw [show ((z2.toNat : Nat) : Int) = z2 by omega], hl, hr, hm, by omega⟩
/-- A slot's value, as it came in or was made. -/
def SupIn (w : World) (v : Value) (s : Sp) : Prop :=
  ∃ (nb bt : Int) (aj : Option Addr) (nj cj : Nat) (lj : Int) (kj : Nat) (ac : Option Addr) (nc cc : Nat) (lc : Int) (kc : Nat) (sj sc : List Int),
    v = .agg #[.int .i64 nb, .int .i64 bt, .slice aj nj cj, .int .i64 lj, .int .u32 (kj : Int), .slice ac nc cc, .int .i64 lc, .int .u32 (kc : Int)] ∧ s = ⟨nb, bt, ⟨sj, lj, kj⟩, ⟨sc, lc, kc⟩⟩ ∧
    IRow w aj sj ∧ sj.length = nj ∧ IRow w ac sc ∧ sc.length = nc ∧ kj < 4294967296 ∧ kc < 4294967296 ∧ nj ≤ maxLen ∧ nc ≤ maxLen
theorem sup_of {H : Type} {enc : TypeId × Value → H} {w : World} {fuel : Nat} {cs : Array Value} {x : DataW H × List MemPlace} (h : DataW.trod enc Try.prog w 0 (fun _ => true) true fuel 27 cs.toList = some x) : ∃ s, SupIn w (.agg cs) s := by
  obtain ⟨cs⟩ := cs
  change DataW.trod enc Try.prog w 0 (fun _ => true) true fuel 27 cs = some x at h
  obtain ⟨y0, y1, y2, y3, m, _, hlen, e0, e1, e2, e3⟩ := Joins.trod_struct4 Try.underlying27 h
  have hc27 : Try.prog.cellsOf 27 = 8 := by kernel_rfl
  have hc3 : Try.prog.cellsOf 3 = 1 := by kernel_rfl
  have hc25 : Try.prog.cellsOf 25 = 3 := by kernel_rfl
  rw [hc27] at hlen
  obtain ⟨c0, c1, c2, c3, c4, c5, c6, c7, rfl⟩ : ∃ a b c d e f g h, cs = [a, b, c, d, e, f, g, h] := by
    match cs, hlen with
    | [a, b, c, d, e, f, g, h], _ => exact ⟨a, b, c, d, e, f, g, h, rfl⟩
  dsimp only at e0 e1 e2 e3
  rw [hc3] at e0 e1
  rw [hc25] at e2 e3
  change DataW.trod enc Try.prog w 0 _ true m 3 [c0] = some y0 at e0
  change DataW.trod enc Try.prog w 0 _ true m 3 [c1] = some y1 at e1
  change DataW.trod enc Try.prog w 0 _ true m 25 [c2, c3, c4] = some y2 at e2
  change DataW.trod enc Try.prog w 0 _ true m 25 [c5, c6, c7] = some y3 at e3
  obtain ⟨z0, q0, _, w0⟩ := DataW.trod_int Try.underlying3 e0
  obtain ⟨z1, q1, _, w1⟩ := DataW.trod_int Try.underlying3 e1
  have q0' : c0 = _ := List.head_eq_of_cons_eq q0
  have q1' : c1 = _ := List.head_eq_of_cons_eq q1
  subst q0' q1'
  obtain ⟨aj, nj, cj, sj, lj, kj, h1, h2, h3, h4, h5⟩ := log_of e2
  obtain ⟨ac, nc, cc, sc, lc, kc, g1, g2, g3, g4, g5⟩ := log_of e3
  simp only [List.cons.injEq, and_true] at h1 g1
  obtain ⟨rfl, rfl, rfl⟩ := h1
  obtain ⟨rfl, rfl, rfl⟩ := g1
  exact ⟨⟨z0, z1, ⟨sj, lj, kj⟩, ⟨sc, lc, kc⟩⟩, z0, z1, aj, nj, cj, lj, kj, ac, nc, cc, lc, kc, sj, sc, rfl, rfl, h3, h2, g3, g2, h5, g5, h4, g4⟩
end Go.Proofs.Ytmfmhlhpleahpaa
