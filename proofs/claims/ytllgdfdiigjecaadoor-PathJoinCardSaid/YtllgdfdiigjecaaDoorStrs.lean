/- A slice of texts that came in, opened; that a process's addresses bound it. No condition. -/
import Derived.Test.YtllgdfdiigjecaaDoorDoor
import Derived.SliceStrings
import Derived.SizedLaws
namespace Go.Proofs.YtllgdfdiigjecaaDoor
open Go.ChangeShapes Go.WideShapes Go.RowKit
theorem strs_of {H : Type} {enc : TypeId × Value → H} {w : World} {fuel : Nat} {a : Option Addr} {len cap : Nat} {x : DataW H × List MemPlace} (h : DataW.trod enc Tryd.prog w 0 (fun _ => true) true fuel 23 (Value.slice a len cap).cells.toList = some x) :
    ∃ l : List Str, l.length = len ∧ len ≤ cap ∧ Texts w a l ∧ (len = 0 ∨ ∃ e s : List (DataW H), x.1 = .slice e s ∧ len ≤ e.length + s.length) := by
  rcases open_strings Tryd.underlying23 Tryd.underlying9 (by kernel_rfl) h with ⟨hcs, _⟩ | ⟨y, l, c, ss, hcs, _, hl, hm, hz, hx, hcell, _⟩
  · simp [Value.cells] at hcs
    obtain ⟨rfl, rfl, rfl⟩ := hcs
    exact ⟨[], rfl, Nat.le_refl _, .inl rfl, .inl rfl⟩
  · simp [Value.cells] at hcs
    obtain ⟨rfl, rfl, rfl⟩ := hcs
    simp only [if_true] at hz
    refine ⟨(ss.take len).map (fun s => s.data.toList), by simp; omega, hl, ?_, .inr ⟨_, _, by rw [hx], by simp [strs]; omega⟩⟩
    by_cases h0 : len = 0
    · subst h0; exact .inl (by simp)
    · obtain ⟨b, off, spot⟩ := y
      have hc := hcell 0 (by omega)
      have hspot : spot = none := by simpa [Addr.add] using World.cell?_spot hc
      subst hspot
      refine .inr ⟨b, off, rfl, ?_, fun i hi => ?_⟩
      · have := World.block_lt_of_cell? _ _ hc
        simpa [Addr.add] using this
      · have hi1 : i < len := by simp at hi; omega
        have hadd : (⟨b, off, none⟩ : Addr).add i = ⟨b, off + i, none⟩ := by unfold Addr.add; split <;> simp_all
        have h1 := hcell i (by omega)
        rw [hadd] at h1
        rw [h1]
        have his : i < ss.length := by omega
        simp [List.getElem?_eq_getElem his, hi1, mk_data]
theorem strs_len {H : Type} {ts : List TypeId} {ds : List (DataW H)} (h : (DataW.weightsEach Tryd.prog ts ds).all (· ≤ reachBytes) = true) {j : Nat} {len : Nat} {d : DataW H} (ht : ts[j]? = some 23) (hd : ds[j]? = some d) (hl : len = 0 ∨ ∃ e s : List (DataW H), d = .slice e s ∧ len ≤ e.length + s.length) : len ≤ 8796093022208 := by
  rcases hl with rfl | ⟨e, s, rfl, hl⟩
  · omega
  · have h1 := sized_slice h ht hd Tryd.underlying23
    have h2 : Tryd.prog.bytesOf 9 = 16 := by kernel_rfl
    rw [h2] at h1
    have h3 := reachBytes_lt
    omega
end Go.Proofs.YtllgdfdiigjecaaDoor
