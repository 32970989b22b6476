/- How two numbers in an array come in. No condition. -/
import Derived.Test.YthfpjpknmaebbaaAwake
namespace Go.Proofs.Ythfpjpknmaebbaa
open Go.ChangeShapes Go.WideShapes Go.ChangeAt Go.RowKit
theorem two_of {α : Type} : ∀ (l : List α), l.length = 2 → ∃ a b, l = [a, b]
  | [a, b], _ => ⟨a, b, rfl⟩
  | [], h => by simp at h
  | [_], h => by simp at h
  | _ :: _ :: _ :: _, h => by simp at h
theorem pair_of {H : Type} {enc : TypeId × Value → H} {W : World} {base : Nat} {t e : TypeId} {k : IntKind} {v : Value} {d : DataW H} {p : List MemPlace} (hu : Try.prog.underlying t = some (.array 2 e)) (hct : Try.prog.cellsOf t = 2) (hce : Try.prog.cellsOf e = 1) (hue : Try.prog.underlying e = some (.int k))
    (hok : Value.okWide Try.prog W .any base t v) (h : DataW.Trod enc Try.prog W 0 (fun _ => true) true t v d p) : ∃ x y : Int, v = .agg #[.int k x, .int k y] ∧ (Lit.int k x).wf = true ∧ (Lit.int k y).wf = true := by
  obtain ⟨cs, rfl, hsz, _⟩ : ∃ cs, v = .agg cs ∧ cs.size = Try.prog.cellsOf t ∧ Row.okWide Try.prog W .any base t cs := by
    simpa [Value.okWide, hu] using hok
  rw [hct] at hsz
  obtain ⟨l⟩ := cs
  obtain ⟨c0, c1, rfl⟩ := two_of l hsz
  obtain ⟨fuel, hf⟩ := h
  obtain ⟨xs, m, rfl, _, _, hxs, hx⟩ := DataW.trod_array hu hf
  obtain ⟨y0, y1, rfl⟩ := two_of xs hxs
  have e0 := hx 0 (by decide)
  have e1 := hx 1 (by decide)
  rw [hce] at e0 e1
  simp [Value.cells] at e0 e1
  obtain ⟨z0, q0, _, w0⟩ := DataW.trod_int hue e0
  obtain ⟨z1, q1, _, w1⟩ := DataW.trod_int hue e1
  have r0 : c0 = _ := List.head_eq_of_cons_eq q0
  have r1 : c1 = _ := List.head_eq_of_cons_eq q1
  exact ⟨z0, z1, by rw [r0, r1], w0, w1⟩
theorem rows_of {H : Type} {enc : TypeId × Value → H} {w : World} {fuel : Nat} {a : Option Addr} {len cap : Nat} {x : DataW H × List MemPlace} (h : DataW.trod enc Try.prog w 0 (fun _ => true) true fuel 23 (Value.slice a len cap).cells.toList = some x) :
    ∃ l : List Nat, l.length = len ∧ Row w a l := by
  have hi : ∃ zs, IsRow .u8 w a len cap zs := by
    rcases open_ints Try.underlying23 Try.underlying5 (by kernel_rfl) h with ⟨hcs, _⟩ | ⟨x, l, c, zs, hcs, _, hl, hm, hz, _, hcell, hwz⟩
    · simp [Value.cells] at hcs
      obtain ⟨rfl, rfl, rfl⟩ := hcs
      exact ⟨[], .inl ⟨rfl, rfl, rfl, rfl⟩⟩
    · simp [Value.cells] at hcs
      obtain ⟨rfl, rfl, rfl⟩ := hcs
      exact ⟨zs, .inr ⟨_, rfl, hl, hm, by simpa using hz, hcell, hwz⟩⟩
  obtain ⟨zs, hi⟩ := hi
  obtain ⟨l, hl, hr, _⟩ := bytes_of hi
  exact ⟨l, hl, hr⟩
end Go.Proofs.Ythfpjpknmaebbaa
