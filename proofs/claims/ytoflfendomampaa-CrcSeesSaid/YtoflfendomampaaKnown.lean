/- The program's 'awake' answers true in every world; the sums that are known by hand. No condition. -/
import Derived.Test.YtoflfendomampaaNext
import Derived.Lib.SlBytesConst
import Derived.Laws.BytesString
namespace Go.Proofs.Ytoflfendomampaa
open Go.RowKit Crc
theorem row_new_m (w : World) (l : List Nat) (hl : ∀ x ∈ l, x < 256) (t : TypeId) (m : Nat × Nat) : Row (w.alloc (.cells (row8 l) t m)) (some ⟨w.heap.size, 0, none⟩) l := by
  refine ⟨hl, .inr ⟨w.heap.size, 0, rfl, by simp, fun i hi => ?_⟩⟩
  rw [cell_of_row _ _ _ _ t m (heap_alloc_new w _), Nat.zero_add, row8_get l i hi]
theorem row_nil (w : World) : Row w none [] := ⟨by simp, .inl rfl⟩
def strOf (l : List Nat) : ByteArray := (l.map fun n : Nat => (n : Int)).foldl (fun r n => r.push (UInt8.ofNat n.toNat)) ByteArray.empty
theorem load_row8 (w : World) (b off : Nat) (l : List Nat) (h : ∀ i, i < l.length → w.cell? ⟨b, off + i, none⟩ = some (.int .u8 (l.getD i 0 : Nat))) :
    (loadCells ⟨b, off, none⟩ l.length).run Try.prog w = .ok ((l.map fun n : Nat => (n : Int)).map (Value.int .u8)).toArray w := by
  have := run_loadCells_list (P := Try.prog) w ⟨b, off, none⟩ ((l.map fun n : Nat => (n : Int)).map (Value.int .u8)) (fun j v hv => by
    have hadd : (⟨b, off, none⟩ : Addr).add j = ⟨b, off + j, none⟩ := by unfold Addr.add; split <;> simp_all
    have hj : j < l.length := by
      have := (List.getElem?_eq_some_iff.1 hv).1
      simpa using this
    rw [hadd, h j hj]
    simp [hj] at hv
    simp [hj, hv])
  simpa using this
theorem str_any (w : World) (a : Option Addr) (l : List Nat) (cap : Nat) (hr : Row w a l) (hne : l ≠ []) : (convert 22 9 (.slice a l.length cap)).run Try.prog w = .ok (.string (strOf l)) w := by
  rw [run_convert_bytes_string w 22 9 5 a l.length cap Try.underlying22 Try.underlying5 Try.underlying9]
  rcases hr.2 with h | ⟨b, off, rfl, _, hc⟩
  · exact absurd h hne
  · exact run_bytesToString w ⟨b, off, none⟩ l.length cap _ (load_row8 w b off l hc)
theorem str4 (w : World) (c : Nat) (hc : c < 4294967296) : (convert 22 9 (.slice (some ⟨w.heap.size, 0, none⟩) 4 4)).run Try.prog (w.alloc (.cells (row8 (four c)) 5)) = .ok (.string (strOf (four c))) (w.alloc (.cells (row8 (four c)) 5)) :=
  str_any _ _ (four c) 4 (row_new w _ (four_lt hc) 5) (by simp [four])
theorem str_1 : strOf (four 16909060) = ⟨#[4, 3, 2, 1]⟩ := by decide +kernel
theorem str_0 : strOf (four 0) = ⟨#[0, 0, 0, 0]⟩ := by decide +kernel
theorem known1 : nx 0 [49, 50, 51, 52, 53, 54, 55, 56, 57] = 3808858755 := by decide +kernel
theorem known0 : nx 0 [] = 0 := by decide +kernel
set_option maxHeartbeats 1000000 in
theorem awake_any (w : World) : Calls Try.prog 8 #[] w fun e w' => e = .returned (.bool true) ∧ Below w.heap.size w w' := by
  have kc := fun (w : World) (C : Array Value) (n c : Nat) => Lib.run_convert_bytes_const (P := Try.prog) w 22 5 C n c Try.underlying22 Try.underlying5
  have k1 : ∀ w, Calls Try.prog 9 #[.slice (some ⟨w.heap.size, 0, none⟩) 9 9] (w.alloc (.cells (row8 [49, 50, 51, 52, 53, 54, 55, 56, 57]) 5 (9, 10))) fun e w' => e = .returned (.int .u32 3808858755) ∧ Below w.heap.size w w' := fun w =>
    (sum_any _ [49, 50, 51, 52, 53, 54, 55, 56, 57] 9 _ (row_new_m w _ (by decide) 5 (9, 10)) (by decide)).mono fun e w' ⟨he, hb⟩ => ⟨by rw [he, known1]; rfl, ((Below.refl _ _).alloc (Nat.le_refl _) _).trans (hb.mono (by simp))⟩
  have k0 : ∀ w, Calls Try.prog 9 #[.slice none 0 0] w fun e w' => e = .returned (.int .u32 0) ∧ Below w.heap.size w w' := fun w =>
    (sum_any none [] 0 w (row_nil w) (by decide)).mono fun e w' ⟨he, hb⟩ => ⟨by rw [he, known0]; rfl, hb⟩
  go_enter Try.func8, Try.ntmps8
  go_wp2_with fail
  refine (k1 _).mono ?_
  rintro e w1 ⟨rfl, hb1⟩
  go_wp2_with fail
  refine (k0 _).mono ?_
  rintro e w2 ⟨rfl, hb2⟩
  go_wp2_with fail
  refine (bytes_any 16909060 (by decide) _).mono ?_
  rintro e w3 ⟨rfl, rfl⟩
  have hs := str4 w2 16909060 (by decide)
  rw [str_1] at hs
  go_wp2_with fail
  go_ret
  exact ⟨rfl, (hb1.trans (hb2.mono hb1.size)).alloc (Nat.le_trans hb1.size hb2.size) _⟩
theorem known2 : nx 0 [0] = 1383945041 := by decide +kernel
theorem known3 : nx 0 (List.replicate 32 0) = 2324772522 := by decide +kernel
theorem known4 : nx 0 [49, 50, 51, 52, 53] = 416359221 := by decide +kernel
theorem known5 : nx (nx 0 [49, 50, 51, 52, 53]) [54, 55, 56, 57] = 3808858755 := by decide +kernel
theorem known6 : nx 7 [] = 7 := by decide +kernel
end Go.Proofs.Ytoflfendomampaa
