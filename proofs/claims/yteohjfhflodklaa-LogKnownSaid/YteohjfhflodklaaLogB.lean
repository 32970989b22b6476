/- What lowest of log does. Condition: a number that is not below nought. -/
import Derived.Test.YteohjfhflodklaaLogA
namespace Go.Proofs.Yteohjfhflodklaa
open Go.RowKit Pen
open Crc (four nx run)
set_option maxRecDepth 4000
def low (n : Nat) : Nat → List Nat
  | 0 => []
  | m + 1 => low n m ++ [n / 256 ^ m % 256]
theorem low_len (n m : Nat) : (low n m).length = m := by
  induction m with
  | zero => rfl
  | succ m ih => simp [low, ih]
theorem low_lt (n m : Nat) : ∀ x ∈ low n m, x < 256 := by
  induction m with
  | zero => simp [low]
  | succ m ih =>
    intro x hx
    rcases List.mem_append.1 hx with h | h
    · exact ih x h
    · simp at h; omega
theorem low_set (n i m : Nat) (h : i < m) : (low n i ++ List.replicate (m - i) 0).set i (n / 256 ^ i % 256) = low n (i + 1) ++ List.replicate (m - (i + 1)) 0 := by
  have e : m - i = (m - (i + 1)) + 1 := by omega
  rw [List.set_append_right _ _ (by rw [low_len]; exact Nat.le_refl _), low_len, Nat.sub_self, e, List.replicate_succ, List.set_cons_zero, low, List.append_assoc]
  rfl
theorem low_four (n : Nat) (h : n < 4294967296) : low n 4 = four n := by
  simp only [low, four, List.nil_append, List.cons_append]
  have e0 : n / 256 ^ 0 = n := by simp
  have e3 : n / 256 ^ 3 % 256 = n / 16777216 := by omega
  simp [e3]
theorem ownB_new (w : World) (l : List Nat) (h : ∀ x ∈ l, x < 256) : OwnB (w.alloc (.cells (row8 l) 5)) w.heap.size l :=
  ⟨h, row8 l, heap_alloc_new w _, fun j hj => row8_get l j hj⟩
theorem low_byte (n i : Nat) : (n : Int) / 2 ^ (8 * i) % 256 = ((n / 256 ^ i % 256 : Nat) : Int) := by
  have e : (256 : Nat) ^ i = 2 ^ (8 * i) := by rw [Nat.pow_mul]
  rw [e]; push_cast; rfl
theorem make_bytes (w : World) (n : Nat) (h : n ≤ 1000000) : (Instr.makeSlice 40 (.int .i64 (n : Int)) (.int .i64 (n : Int))).run Try.prog w = .ok (.slice (some ⟨w.heap.size, 0, none⟩) n n) (w.alloc (.cells (row8 (List.replicate n 0)) 5)) := by
  have := run_make_row' 40 5 (.int .u8 0) 1 Try.underlying40 info5 rfl .i64 .i64 n (by omega) (by omega) w
  rw [made_row8] at this
  exact this
theorem low_two (n : Nat) : low n 2 = two n := by simp [low, two]
set_option maxHeartbeats 1000000 in
theorem lowest4 (w : World) (n : Nat) : Calls Try.prog 61 #[.int .i64 (n : Int), .int .i64 4] w fun e w' => ∃ g, e = .returned (.slice (some ⟨g, 0, none⟩) 4 4) ∧ OwnB w' g (low n 4) ∧ Below w.heap.size w w' ∧ w.heap.size ≤ g := by
  have HO : Hid (OwnB (w.alloc (.cells (row8 (List.replicate 4 0)) 5)) w.heap.size (low n 0 ++ List.replicate (4 - 0) 0)) := ownB_new w (List.replicate 4 0) (by simp)
  have HB : Hid (Below w.heap.size w (w.alloc (.cells (row8 (List.replicate 4 0)) 5))) := (Below.refl _ w).alloc (Nat.le_refl _) _
  have hmk : (Instr.makeSlice 40 (.int .i64 4) (.int .i64 4)).run Try.prog w = .ok (.slice (some ⟨w.heap.size, 0, none⟩) 4 4) (w.alloc (.cells (row8 (List.replicate 4 0)) 5)) := make_bytes w 4 (by decide)
  generalize hW0 : w.alloc (.cells (row8 (List.replicate 4 0)) 5) = W0 at *
  clear hW0
  go_enter Try.func61, Try.ntmps61
  go_wp2_with fail
  go_loopg [11] 4 (fun gk v wr => ∃ i : Nat, i + gk = 4 ∧ v = .int .i64 (i : Int) ∧ OwnB wr w.heap.size (low n i ++ List.replicate (4 - i) 0) ∧ Below w.heap.size w wr)
  case atStart => exact ⟨0, by omega, rfl, HO.out, HB.out⟩
  case round =>
    obtain ⟨i, hi, rfl, ho, hb⟩ := hrel
    have HO2 := hid ho
    have HB2 := hid hb
    clear HO HB hmk
    by_cases hlt : i < 4
    · have hc := ho.cell i (by simp [low_len]; omega)
      have hf := ho.fr i
      have HS := hid (ho.set i (n / 256 ^ i % 256) (by simp [low_len]; omega) (Nat.mod_lt _ (by decide)))
      rw [low_set n i 4 hlt] at HS
      have HC : Hid ((n : Int) / 2 ^ (8 * i) % 256 = ((n / 256 ^ i % 256 : Nat) : Int)) := low_byte n i
      have HB3 := hid (hb.setCell (p := ⟨w.heap.size, i, none⟩) (Nat.le_refl _) (.int .u8 (n / 256 ^ i % 256 : Nat)))
      generalize hv0 : (low n i ++ List.replicate (4 - i) 0).getD i 0 = v0 at *
      clear ho hb hv0
      go_wp2_with fail
      rw [HC.out]
      go_roundg (gk - 1)
      case measure => omega
      case rel => exact ⟨i + 1, by omega, by go_num, HS.out, HB3.out⟩
    · have hlt' : ¬ (i : Int) < 4 := by omega
      obtain rfl : i = 4 := by omega
      rw [Nat.sub_self, List.replicate_zero, List.append_nil] at HO2
      go_wp2_with fail
      go_ret
      exact ⟨_, rfl, HO2.out, HB2.out, Nat.le_refl _⟩
set_option maxHeartbeats 1000000 in
theorem lowest2 (w : World) (n : Nat) : Calls Try.prog 61 #[.int .i64 (n : Int), .int .i64 2] w fun e w' => ∃ g, e = .returned (.slice (some ⟨g, 0, none⟩) 2 2) ∧ OwnB w' g (low n 2) ∧ Below w.heap.size w w' ∧ w.heap.size ≤ g := by
  have HO : Hid (OwnB (w.alloc (.cells (row8 (List.replicate 2 0)) 5)) w.heap.size (low n 0 ++ List.replicate (2 - 0) 0)) := ownB_new w (List.replicate 2 0) (by simp)
  have HB : Hid (Below w.heap.size w (w.alloc (.cells (row8 (List.replicate 2 0)) 5))) := (Below.refl _ w).alloc (Nat.le_refl _) _
  have hmk : (Instr.makeSlice 40 (.int .i64 2) (.int .i64 2)).run Try.prog w = .ok (.slice (some ⟨w.heap.size, 0, none⟩) 2 2) (w.alloc (.cells (row8 (List.replicate 2 0)) 5)) := make_bytes w 2 (by decide)
  generalize hW0 : w.alloc (.cells (row8 (List.replicate 2 0)) 5) = W0 at *
  clear hW0
  go_enter Try.func61, Try.ntmps61
  go_wp2_with fail
  go_loopg [11] 2 (fun gk v wr => ∃ i : Nat, i + gk = 2 ∧ v = .int .i64 (i : Int) ∧ OwnB wr w.heap.size (low n i ++ List.replicate (2 - i) 0) ∧ Below w.heap.size w wr)
  case atStart => exact ⟨0, by omega, rfl, HO.out, HB.out⟩
  case round =>
    obtain ⟨i, hi, rfl, ho, hb⟩ := hrel
    have HO2 := hid ho
    have HB2 := hid hb
    clear HO HB hmk
    by_cases hlt : i < 2
    · have hc := ho.cell i (by simp [low_len]; omega)
      have hf := ho.fr i
      have HS := hid (ho.set i (n / 256 ^ i % 256) (by simp [low_len]; omega) (Nat.mod_lt _ (by decide)))
      rw [low_set n i 2 hlt] at HS
      have HC : Hid ((n : Int) / 2 ^ (8 * i) % 256 = ((n / 256 ^ i % 256 : Nat) : Int)) := low_byte n i
      have HB3 := hid (hb.setCell (p := ⟨w.heap.size, i, none⟩) (Nat.le_refl _) (.int .u8 (n / 256 ^ i % 256 : Nat)))
      generalize hv0 : (low n i ++ List.replicate (2 - i) 0).getD i 0 = v0 at *
      clear ho hb hv0
      go_wp2_with fail
      rw [HC.out]
      go_roundg (gk - 1)
      case measure => omega
      case rel => exact ⟨i + 1, by omega, by go_num, HS.out, HB3.out⟩
    · have hlt' : ¬ (i : Int) < 2 := by omega
      obtain rfl : i = 2 := by omega
      rw [Nat.sub_self, List.replicate_zero, List.append_nil] at HO2
      go_wp2_with fail
      go_ret
      exact ⟨_, rfl, HO2.out, HB2.out, Nat.le_refl _⟩
end Go.Proofs.Yteohjfhflodklaa
