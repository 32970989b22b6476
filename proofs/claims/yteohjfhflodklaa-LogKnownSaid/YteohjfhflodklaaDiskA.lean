/- The small methods of a disk: Sectors, has, spend, Ops, Dead, Fuse, and New. Condition: fewer than a thousand million operations were done. -/
import Derived.Test.YteohjfhflodklaaDisk
namespace Go.Proofs.Yteohjfhflodklaa
open Go.RowKit
set_option maxRecDepth 4000
theorem DiskAt.cells {w : World} {q p : Nat} {d : Dk} {z : Int} (h : w.heap[q]? = some (.cells #[.slice (some ⟨p, 0, none⟩) d.secs.length d.secs.length, .int .i64 (d.ops : Int), .bool d.fuse.isSome, .int .i64 z, .bool d.dead] 66 (0, 0))) :
    w.cell? ⟨q, 0, none⟩ = some (.slice (some ⟨p, 0, none⟩) d.secs.length d.secs.length) ∧ w.cell? ⟨q, 1, none⟩ = some (.int .i64 (d.ops : Int)) ∧ w.cell? ⟨q, 2, none⟩ = some (.bool d.fuse.isSome) ∧ w.cell? ⟨q, 3, none⟩ = some (.int .i64 z) ∧ w.cell? ⟨q, 4, none⟩ = some (.bool d.dead) ∧ ∀ i, w.frozen? ⟨q, i, none⟩ = false := by
  refine ⟨?_, ?_, ?_, ?_, ?_, fun i => frozen_of_row w q i _ 66 h⟩ <;> rw [cell_of_row w q _ _ 66 (0, 0) h] <;> rfl
set_option maxHeartbeats 1000000 in
theorem sectors_any {w : World} {q p : Nat} {d : Dk} (h : DiskAt w q p d) : Calls Try.prog 55 #[.pointer (some ⟨q, 0, none⟩)] w fun e w' => e = .returned (.int .i64 (d.secs.length : Int)) ∧ w' = w := by
  obtain ⟨z, h1, h2, h3, h4, h5⟩ := h
  obtain ⟨c0, c1, c2, c3, c4, cf⟩ := DiskAt.cells h1
  clear h1 h2 h3 h4
  generalize d.secs.length = n at *
  go_enter Try.func55, Try.ntmps55
  go_wp2_with fail
  go_ret
  exact ⟨rfl, rfl⟩
def Dk.has (d : Dk) (z : Int) : Bool := decide (0 ≤ z) && decide (z < (d.secs.length : Int))
set_option maxHeartbeats 1000000 in
theorem has_any {w : World} {q p : Nat} {d : Dk} (h : DiskAt w q p d) (z : Int) : Calls Try.prog 40 #[.pointer (some ⟨q, 0, none⟩), .int .i64 z] w fun e w' => e = .returned (.bool (d.has z)) ∧ w' = w := by
  have HD := hid h
  clear h
  unfold Dk.has
  go_enter Try.func40, Try.ntmps40
  by_cases h0 : 0 ≤ z
  · by_cases h1 : z < (d.secs.length : Int)
    · go_wp2_with fail
      refine (sectors_any HD.out).mono ?_
      rintro e w1 ⟨rfl, rfl⟩
      go_wp2_with fail
      go_ret
      exact ⟨by simp; omega, rfl⟩
    · go_wp2_with fail
      refine (sectors_any HD.out).mono ?_
      rintro e w1 ⟨rfl, rfl⟩
      go_wp2_with fail
      go_ret
      exact ⟨by simp; omega, rfl⟩
  · go_wp2_with fail
    go_ret
    exact ⟨by simp; omega, rfl⟩
set_option maxHeartbeats 1000000 in
theorem spend_dead {w : World} {q p : Nat} {d : Dk} (h : DiskAt w q p d) (hf : d.fuse = some 0) : Calls Try.prog 42 #[.pointer (some ⟨q, 0, none⟩)] w fun e w' => e = .returned (.bool false) ∧ DiskAt w' q p { d with dead := true } ∧ Only q none w w' := by
  have hne := h.ne
  obtain ⟨z, h1, h2, h3, h4, h5⟩ := h
  obtain ⟨c0, c1, c2, c3, c4, cf⟩ := DiskAt.cells h1
  obtain ⟨rfl, _⟩ := h4 0 hf
  have HF : Hid (DiskAt (w.setCell ⟨q, 4, none⟩ (.bool true)) q p { d with dead := true } ∧ Only q none w (w.setCell ⟨q, 4, none⟩ (.bool true))) := by
    have ho := only_setCell w q 4 none (.bool true)
    refine ⟨⟨0, ?_, (ho.block p (Array.getElem?_eq_some_iff.1 h2).1 hne.symm (by simp)).trans h2, h3, h4, h5⟩, ho⟩
    rw [heap_setCell_same _ _ _ _ _ _ h1]
    simp
  have cf4 := cf 4
  rw [hf] at c2
  clear h1 h2 h3 h4 h5 hf cf
  go_enter Try.func42, Try.ntmps42
  go_wp2_with fail
  go_ret
  exact ⟨rfl, HF.out⟩
set_option maxHeartbeats 1000000 in
theorem spend_some {w : World} {q p n : Nat} {d : Dk} (h : DiskAt w q p d) (hf : d.fuse = some (n + 1)) (hops : d.ops < 1000000000) : Calls Try.prog 42 #[.pointer (some ⟨q, 0, none⟩)] w fun e w' => e = .returned (.bool true) ∧ DiskAt w' q p { d with fuse := some n, ops := d.ops + 1 } ∧ Only q none w w' := by
  have hne := h.ne
  obtain ⟨z, h1, h2, h3, h4, h5⟩ := h
  obtain ⟨c0, c1, c2, c3, c4, cf⟩ := DiskAt.cells h1
  obtain ⟨rfl, hn⟩ := h4 (n + 1) hf
  have HF : Hid (DiskAt ((w.setCell ⟨q, 3, none⟩ (.int .i64 (n : Int))).setCell ⟨q, 1, none⟩ (.int .i64 ((d.ops + 1 : Nat) : Int))) q p { d with fuse := some n, ops := d.ops + 1 } ∧ Only q none w ((w.setCell ⟨q, 3, none⟩ (.int .i64 (n : Int))).setCell ⟨q, 1, none⟩ (.int .i64 ((d.ops + 1 : Nat) : Int)))) := by
    have ho := (only_setCell w q 3 none (.int .i64 (n : Int))).tr (only_setCell _ q 1 none (.int .i64 ((d.ops + 1 : Nat) : Int)))
    refine ⟨⟨n, ?_, (ho.block p (Array.getElem?_eq_some_iff.1 h2).1 hne.symm (by simp)).trans h2, h3, fun m hm => ?_, h5⟩, ho⟩
    · rw [heap_setCell_same _ _ _ _ _ _ (heap_setCell_same _ _ _ _ _ _ h1)]
      simp [hf]
    · simp at hm
      subst hm
      exact ⟨rfl, by omega⟩
  have cf3 := cf 3
  have cf1 := cf 1
  rw [hf] at c2
  have t1 : ((((n + 1 : Nat) : Int)) == 0) = false := by simp; omega
  generalize hN : (((n + 1 : Nat) : Int)) = N at *
  generalize hO : (d.ops : Int) = O at *
  have hw1 : (N + 9223372036854775808 - 1) % 18446744073709551616 = N + 9223372036854775808 - 1 := by omega
  have g1 : -9223372036854775808 ≤ N - 1 ∧ N - 1 < 9223372036854775808 := by omega
  have g2 : -9223372036854775808 ≤ O + 1 ∧ O + 1 < 9223372036854775808 := by omega
  have e1 : (n : Int) = N - 1 := by omega
  have e2 : ((d.ops + 1 : Nat) : Int) = O + 1 := by omega
  rw [e1, e2] at HF
  clear h1 h2 h3 h4 h5 hf cf hN hO e1 e2 hw1
  go_enter Try.func42, Try.ntmps42
  go_wp2_with fail
  go_ret
  exact ⟨rfl, HF.out⟩
set_option maxHeartbeats 1000000 in
theorem spend_none {w : World} {q p : Nat} {d : Dk} (h : DiskAt w q p d) (hf : d.fuse = none) (hops : d.ops < 1000000000) : Calls Try.prog 42 #[.pointer (some ⟨q, 0, none⟩)] w fun e w' => e = .returned (.bool true) ∧ DiskAt w' q p { d with ops := d.ops + 1 } ∧ Only q none w w' := by
  have hne := h.ne
  obtain ⟨z, h1, h2, h3, h4, h5⟩ := h
  obtain ⟨c0, c1, c2, c3, c4, cf⟩ := DiskAt.cells h1
  have HF : Hid (DiskAt (w.setCell ⟨q, 1, none⟩ (.int .i64 ((d.ops + 1 : Nat) : Int))) q p { d with ops := d.ops + 1 } ∧ Only q none w (w.setCell ⟨q, 1, none⟩ (.int .i64 ((d.ops + 1 : Nat) : Int)))) := by
    have ho := only_setCell w q 1 none (.int .i64 ((d.ops + 1 : Nat) : Int))
    refine ⟨⟨z, ?_, (ho.block p (Array.getElem?_eq_some_iff.1 h2).1 hne.symm (by simp)).trans h2, h3, h4, h5⟩, ho⟩
    rw [heap_setCell_same _ _ _ _ _ _ h1]
    simp
  have cf1 := cf 1
  rw [hf] at c2
  generalize hO : (d.ops : Int) = O at *
  have g2 : -9223372036854775808 ≤ O + 1 ∧ O + 1 < 9223372036854775808 := by omega
  have e2 : ((d.ops + 1 : Nat) : Int) = O + 1 := by omega
  rw [e2] at HF
  clear h1 h2 h3 h4 h5 hf cf hO e2
  go_enter Try.func42, Try.ntmps42
  go_wp2_with fail
  go_ret
  exact ⟨rfl, HF.out⟩
theorem spend_any {w : World} {q p : Nat} {d : Dk} (h : DiskAt w q p d) (hops : d.ops < 1000000000) : Calls Try.prog 42 #[.pointer (some ⟨q, 0, none⟩)] w fun e w' => e = .returned (.bool d.may) ∧ DiskAt w' q p d.spent ∧ Only q none w w' := by
  rcases hf : d.fuse with _ | _ | n
  · have := spend_none h hf hops
    simpa [Dk.may, Dk.spent, hf] using this
  · have := spend_dead h hf
    simpa [Dk.may, Dk.spent, hf] using this
  · have := spend_some h hf hops
    simpa [Dk.may, Dk.spent, hf] using this
set_option maxHeartbeats 1000000 in
theorem dead_any {w : World} {q p : Nat} {d : Dk} (h : DiskAt w q p d) : Calls Try.prog 35 #[.pointer (some ⟨q, 0, none⟩)] w fun e w' => e = .returned (.bool d.dead) ∧ w' = w := by
  obtain ⟨z, h1, h2, h3, h4, h5⟩ := h
  obtain ⟨c0, c1, c2, c3, c4, cf⟩ := DiskAt.cells h1
  clear h1 h2 h3 h4 c0 c2 c3 c1
  generalize d.dead = t at *
  go_enter Try.func35, Try.ntmps35
  go_wp2_with fail
  go_ret
  exact ⟨rfl, rfl⟩
def Dk.fused (d : Dk) (z : Int) : Dk := { d with fuse := if 0 ≤ z then some z.toNat else none }
theorem info64 : (Try.prog.info? 86).map (fun i => (i.zero, i.size, i.bytes)) = some (some (.agg (secCells blank).toArray), 129, 129) := by kernel_rfl
theorem made_secs (n : Nat) : madeCells (secCells blank).toArray (n * 129) = (secsCells (List.replicate n blank)).toArray := by
  have hok : allOk (List.replicate n blank) := by intro s hs; rw [List.eq_of_mem_replicate hs]; exact blank_ok
  apply Array.ext_getElem?
  intro k
  have hlen := secsCells_len hok
  rw [List.length_replicate] at hlen
  by_cases hk : k < n * 129
  · have h1 : k / 129 < n := by omega
    have hd : k = k / 129 * 129 + k % 129 := by omega
    have hm : k % 129 < 129 := by omega
    have h2 := secs_get hok (k / 129) (k % 129) (by simpa using h1) hm
    rw [← hd] at h2
    have h3 : (List.replicate n blank).getD (k / 129) blank = blank := by simp [h1]
    rw [h3] at h2
    have hl := secCells_len blank_ok
    simp only [List.getElem?_toArray, h2, madeCells, Array.getElem?_map]
    rw [show (Array.range (n * 129))[k]? = some k by simp [hk]]
    simp [hl, hm]
  · rw [Array.getElem?_eq_none (by rw [size_madeCells]; omega), Array.getElem?_eq_none (by simp [hlen]; omega)]
theorem make_secs (n : Nat) (hn : n ≤ 776) (w : World) : (Instr.makeSlice 64 (.int .i64 (n : Int)) (.int .i64 (n : Int))).run Try.prog w = .ok (.slice (some ⟨w.heap.size, 0, none⟩) n n) (w.alloc (.cells (secsCells (List.replicate n blank)).toArray 86)) := by
  obtain ⟨i, hi, hz⟩ := Option.map_eq_some_iff.1 info64
  simp only [Prod.mk.injEq] at hz
  have hr := run_make (P := Try.prog) w 64 86 i _ Try.underlying64 hi hz.1 .i64 .i64 n n (by omega) (Int.le_refl _) (by rw [hz.2.2]; omega) (by omega)
  simp only [Int.toNat_natCast, hz.2.1, Value.cells, made_secs] at hr
  exact hr
def fresh (n : Nat) : Dk := ⟨List.replicate n blank, 0, none, false⟩
theorem at_new (w : World) (n : Nat) (hn : n ≤ 776) : DiskAt ((w.alloc (.cells (secsCells (List.replicate n blank)).toArray 86)).alloc (.cells #[.slice (some ⟨w.heap.size, 0, none⟩) n n, .int .i64 0, .bool false, .int .i64 0, .bool false] 66)) (w.heap.size + 1) w.heap.size (fresh n) := by
  refine ⟨0, ?_, ?_, ?_, by simp [fresh], by simpa [fresh] using hn⟩
  · have := heap_alloc_new (w.alloc (.cells (secsCells (List.replicate n blank)).toArray 86)) (.cells #[.slice (some ⟨w.heap.size, 0, none⟩) n n, .int .i64 0, .bool false, .int .i64 0, .bool false] 66)
    simpa [fresh] using this
  · have hb := ((Below.refl _ (w.alloc (.cells (secsCells (List.replicate n blank)).toArray 86))).alloc (Nat.le_refl _) (.cells #[.slice (some ⟨w.heap.size, 0, none⟩) n n, .int .i64 0, .bool false, .int .i64 0, .bool false] 66)).block w.heap.size (by simp)
    rw [hb, heap_alloc_new]
    simp [fresh]
  · intro s hs
    rw [List.eq_of_mem_replicate hs]
    exact blank_ok
set_option maxHeartbeats 1000000 in
theorem new_any (w : World) (n : Nat) (hn : n ≤ 776) : Calls Try.prog 11 #[.int .i64 (n : Int)] w fun e w' => ∃ q, e = .returned (.tuple #[.pointer (some ⟨q, 0, none⟩), .int .i64 0]) ∧ ∃ p, DiskAt w' q p (fresh n) ∧ Below w.heap.size w w' ∧ w.heap.size ≤ q ∧ w.heap.size ≤ p := by
  have hmk := fun w => make_secs n hn w
  have HA := hid (at_new w n hn)
  have HB : Hid (Below w.heap.size w ((w.alloc (.cells (secsCells (List.replicate n blank)).toArray 86)).alloc (.cells #[.slice (some ⟨w.heap.size, 0, none⟩) n n, .int .i64 0, .bool false, .int .i64 0, .bool false] 66))) := ((Below.refl _ w).alloc (Nat.le_refl _) _).alloc (by simp) _
  have g1 : ¬ ((n : Int) < 0) := by omega
  have g2 : ¬ (776 < (n : Int)) := by omega
  generalize (secsCells (List.replicate n blank)).toArray = C at *
  clear hn
  go_enter Try.func11, Try.ntmps11
  go_wp2_with fail
  go_ret2
  exact ⟨_, rfl, _, HA.out, HB.out, by omega, by omega⟩
set_option maxHeartbeats 1000000 in
theorem new_no (w : World) (z : Int) (hz : z < 0 ∨ 776 < z) : Calls Try.prog 11 #[.int .i64 z] w fun e w' => e = .returned (.tuple #[.pointer none, .int .i64 1]) ∧ w' = w := by
  go_enter Try.func11, Try.ntmps11
  by_cases h0 : z < 0
  · clear hz
    go_wp2_with fail
    go_ret2
    exact ⟨rfl, rfl⟩
  · have h1 : 776 < z := by omega
    clear hz
    go_wp2_with fail
    go_ret2
    exact ⟨rfl, rfl⟩
end Go.Proofs.Yteohjfhflodklaa
