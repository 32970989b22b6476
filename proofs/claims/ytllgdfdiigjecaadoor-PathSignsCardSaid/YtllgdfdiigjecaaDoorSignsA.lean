/- What PathSigns makes: a row of bytes of its own, as a text; its names as plain mathematics. No condition. -/
import Derived.Test.YtllgdfdiigjecaaDoorUnderW
import Derived.Laws.MakeOwn
namespace Go.Proofs.YtllgdfdiigjecaaDoor
open Go.RowKit
set_option maxRecDepth 4000
def bv (s : Str) : List Value := s.map fun b => .int .u8 (b.toNat : Int)
theorem bv_len (s : Str) : (bv s).length = s.length := by simp [bv]
theorem bv_get (s : Str) (i : Nat) (hi : i < s.length) : (bv s)[i]? = some (.int .u8 ((s.getD i 0).toNat : Int)) := by simp [bv, hi]
theorem bv_set (s : Str) (i : Nat) (b : UInt8) : bv (s.set i b) = (bv s).set i (.int .u8 (b.toNat : Int)) := by simp [bv, List.map_set]
theorem info5' : ∃ i, Tryd.prog.info? 5 = some i ∧ i.zero = some (.int .u8 0) ∧ i.size = 1 ∧ i.bytes = 1 := by
  have h : (Tryd.prog.info? 5).map (fun i => (i.zero, i.size, i.bytes)) = some (some (.int .u8 0), 1, 1) := by kernel_rfl
  obtain ⟨i, hi, hzz⟩ := Option.map_eq_some_iff.1 h
  simp only [Prod.mk.injEq] at hzz
  exact ⟨i, hi, hzz.1, hzz.2.1, hzz.2.2⟩
theorem make_bytes (n : Nat) (hn : n ≤ 1000000) (w : World) : (Instr.makeSlice 34 (.int .i64 (n : Int)) (.int .i64 (n : Int))).run Tryd.prog w = .ok (.slice (some ⟨w.heap.size, 0, none⟩) n n) (w.alloc (.cells (bv (List.replicate n 0)).toArray 5)) := by
  obtain ⟨i5, hi5, hz5, hs5, hy5⟩ := info5'
  have e : madeCells #[Value.int .u8 0] n = (bv (List.replicate n 0)).toArray := by
    apply Array.toList_inj.1
    rw [toList_madeCells_one]
    simp [bv]
  have h := run_makeSlice (P := Tryd.prog) w 34 5 i5 (.int .u8 0) Tryd.underlying34 hi5 hz5 .i64 .i64 (n : Int) (n : Int) (by omega) (Int.le_refl _) (by rw [hs5]; omega) (by rw [hy5]; omega) (by omega)
  rw [hs5, Int.toNat_natCast, Nat.mul_one] at h
  have e2 : (Value.int IntKind.u8 0).cells = #[.int .u8 0] := rfl
  rw [e2, e] at h
  exact h
theorem load_bytes (w : World) (b : Nat) (s : Str) (h : ∀ i, i < s.length → w.cell? ⟨b, i, none⟩ = some (.int .u8 ((s.getD i 0).toNat : Int))) :
    (loadCells ⟨b, 0, none⟩ s.length).run Tryd.prog w = .ok ((s.map fun x => (x.toNat : Int)).map (Value.int .u8)).toArray w := by
  have := run_loadCells_list (P := Tryd.prog) w ⟨b, 0, none⟩ ((s.map fun x => (x.toNat : Int)).map (Value.int .u8)) (fun j v hv => by
    have hadd : (⟨b, 0, none⟩ : Addr).add j = ⟨b, j, none⟩ := by unfold Addr.add; split <;> simp_all
    have hj : j < s.length := by
      have := (List.getElem?_eq_some_iff.1 hv).1
      simpa using this
    rw [hadd, h j hj]
    simp [hj] at hv
    simp [hj, hv])
  simpa using this
theorem fold_str (l : Str) (s : ByteArray) : ((l.map fun x => (x.toNat : Int)).foldl (fun r n => r.push (UInt8.ofNat n.toNat)) s) = ByteArray.mk (s.data.toList ++ l).toArray := by
  induction l generalizing s with
  | nil => simp
  | cons x l ih =>
    simp only [List.map_cons, List.foldl_cons, ih]
    simp [ByteArray.push]
/-- string(b) of the bytes that lie there. -/
theorem str_bytes (w : World) (b : Nat) (s : Str) (n : Nat) (hn : s.length = n) (h : ∀ i, i < s.length → w.cell? ⟨b, i, none⟩ = some (.int .u8 ((s.getD i 0).toNat : Int))) :
    (convert 34 9 (.slice (some ⟨b, 0, none⟩) n n)).run Tryd.prog w = .ok (.string (mk s)) w := by
  subst hn
  rw [run_convert_bytes_string w 34 9 5 (some ⟨b, 0, none⟩) s.length s.length Tryd.underlying34 Tryd.underlying5 Tryd.underlying9]
  rw [run_bytesToString w ⟨b, 0, none⟩ s.length s.length _ (load_bytes w b s h), fold_str]
  rfl
/-- All the same sign, but for one. -/
def signs (k q : Nat) (c : UInt8) : Str := (List.replicate k 97).set q c
theorem signs_len (k q : Nat) (c : UInt8) : (signs k q c).length = k := by simp [signs]
theorem signs_get (k q : Nat) (c : UInt8) (i : Nat) (hi : i < k) : (signs k q c).getD i 0 = if q = i then c else 97 := by
  simp [signs, List.getD_eq_getElem?_getD, hi]
  split <;> simp_all
theorem signs_ok (k q : Nat) (c : UInt8) (hq : q < k) : (∀ i, i < k → okb ((signs k q c).getD i 0) = true) ↔ okb c = true := by
  constructor
  · intro h
    have := h q hq
    rwa [signs_get k q c q hq, if_pos rfl] at this
  · intro h i hi
    rw [signs_get k q c i hi]
    split
    · exact h
    · decide
theorem signs_name (k q : Nat) (c : UInt8) (hq : q < k) : nameB (signs k q c) = true ↔ k ≤ 16 ∧ okb c = true ∧ signs k q c ≠ [46] ∧ signs k q c ≠ [46, 46] := by
  rw [nameB_iff, signs_len, signs_ok k q c hq]
  constructor
  · rintro ⟨_, h2, h3, h4, h5⟩; exact ⟨h2, h5, h3, h4⟩
  · rintro ⟨h2, h5, h3, h4⟩; exact ⟨by omega, h2, h3, h4, h5⟩
theorem signs_none (k q : Nat) (c : UInt8) (hc : c ≠ 47) : ∀ x ∈ signs k q c, x ≠ 47 := by
  intro x hx
  obtain ⟨i, hi, rfl⟩ := List.getElem_of_mem hx
  have hik : i < k := by rw [signs_len] at hi; exact hi
  have := signs_get k q c i hik
  rw [List.getD_eq_getElem?_getD, List.getElem?_eq_getElem hi] at this
  simp only [Option.getD_some] at this
  rw [this]
  split
  · exact hc
  · decide
end Go.Proofs.YtllgdfdiigjecaaDoor
