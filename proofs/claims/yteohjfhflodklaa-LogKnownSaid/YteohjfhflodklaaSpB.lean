/- What Take and Free of a Space do. No condition. -/
import Derived.Test.YteohjfhflodklaaSpA
import Derived.Deep.QuietTactic
import Derived.BigQuiet
namespace Go.Proofs.Yteohjfhflodklaa.Sp
open Go.RowKit
/-- i is the least free one. -/
def Least (t : List Bool) (k i : Nat) : Prop := i < k ∧ t.getD i false = false ∧ ∀ j, j < i → t.getD j false = true
def Full (t : List Bool) (k : Nat) : Prop := ∀ j, j < k → t.getD j false = true
set_option maxHeartbeats 1000000 in
theorem take_any {w : World} {q k : Nat} {t : List Bool} (h : SpAt w q k t) : Calls Try.prog 47 #[.pointer (some ⟨q, 0, none⟩)] w fun e w' =>
    ((∃ i : Nat, e = .returned (.tuple #[.int .i64 (i : Int), .bool true]) ∧ Least t k i ∧ SpAt w' q k (t.set i true)) ∨ (e = .returned (.tuple #[.int .i64 0, .bool false]) ∧ Full t k ∧ SpAt w' q k t)) ∧ Only q none w w' := by
  have H := hid h
  have c0 := h.c0
  have hk := h.le
  clear h
  go_enter Try.func47, Try.ntmps47
  go_wp2_with fail
  go_loopg [11] k (fun gk v wr => ∃ m : Nat, m + gk = k ∧ v = .int .i64 (m : Int) ∧ (∀ j, j < m → t.getD j false = true) ∧ SpAt wr q k t ∧ Only q none w wr)
  case atStart => exact ⟨0, by omega, rfl, fun j hj => by omega, H.out, Only.refl _ _ _⟩
  case round =>
    obtain ⟨m, hm, rfl, hall, hs, ho⟩ := hrel
    have HS := hid hs
    have HO := hid ho
    have HA := hid hall
    clear hs ho hall
    by_cases hlt : m < k
    · go_wp2_with fail
      refine (claim_in HS.out m hlt).mono ?_
      rintro e w1 ⟨rfl, hs1, ho1⟩
      have HO1 := hid (HO.out.tr ho1)
      have HS1 := hid hs1
      clear hs1 ho1
      cases hb : t.getD m false
      · rw [hb, if_neg (by simp)] at HS1
        have HB := hid hb
        clear hb
        go_wp2_with fail
        go_ret2
        exact ⟨.inl ⟨m, rfl, ⟨hlt, HB.out, HA.out⟩, HS1.out⟩, HO1.out⟩
      · rw [hb, if_pos rfl] at HS1
        have HB := hid hb
        clear hb
        go_wp2_with fail
        go_roundg (gk - 1)
        case measure => omega
        case rel => exact ⟨m + 1, by omega, by go_num, fun j hj => by rcases Nat.lt_succ_iff_lt_or_eq.1 hj with h | rfl; exact HA.out j h; exact HB.out, HS1.out, HO1.out⟩
    · have hlt' : ¬ (m : Int) < (k : Int) := by omega
      go_wp2_with fail
      go_ret2
      exact ⟨.inr ⟨rfl, fun j hj => HA.out j (by omega), HS.out⟩, HO.out⟩
theorem slice42 (q k : Nat) (hk : k ≤ 96) (w : World) : (Instr.sliceAt 67 (.pointer (some ⟨q, 1, none⟩)) none (some (.int .i64 (k : Int))) none).run Try.prog w = .ok (.slice (some ⟨q, 1, none⟩) k 96) w := by
  have e1 : Try.prog.arrayLen 67 = 96 := by kernel_rfl
  have e2 : Try.prog.elem 67 = 4 := by kernel_rfl
  have e3 : (sizeOf 4).run Try.prog w = .ok 1 w := by kernel_rfl
  rw [run_sliceAt_array_h (ht := by rw [e1, e2]; exact Try.underlying67) (kh := .i64) (h := (k : Int)) (h0 := by omega) (h2 := by rw [e1]; omega), e1, e2, e3]
  simp [slicedAt, Addr.add]
theorem SpAt.drewN {w : World} {q k : Nat} {t : List Bool} (h : SpAt w q k t) (n : Nat) : SpAt (w.drewN n) q k t := ⟨h.blk, h.len, h.le⟩
set_option maxHeartbeats 1000000 in
theorem free_any {w : World} {q k : Nat} {t : List Bool} (h : SpAt w q k t) : Calls Try.prog 15 #[.pointer (some ⟨q, 0, none⟩)] w fun e w' => e = .returned (.int .i64 (nfree t k : Int)) ∧ ∃ n, w' = w.drewN n := by
  have H := hid h
  have c0 := h.c0
  have hk := h.le
  have hsl := slice42 q k hk
  clear h
  go_enter Try.func15, Try.ntmps15
  go_wp2_with fail
  go_quiet (fail)
  have HD := hid (show ∃ n, w.drewN nq = w.drewN n from ⟨nq, rfl⟩)
  have H2 := hid (H.out.drewN nq)
  generalize w.drewN nq = v at HD H2 ⊢
  clear hsl c0 H
  go_wp2_with fail
  go_loopg [3, 17] k (fun gk a b wr => ∃ m : Nat, m + gk = k ∧ b = .int .i64 (m : Int) ∧ a = .int .i64 (nfree t m : Int) ∧ wr = v)
  case atStart => exact ⟨0, by omega, rfl, rfl, rfl⟩
  case round =>
    obtain ⟨m, hm, rfl, rfl, rfl⟩ := hrel
    by_cases hlt : m < k
    · have hc := H2.out.c m (by omega)
      have HN : Hid (nfree t (m + 1) = nfree t m + if t.getD m false then 0 else 1) := rfl
      have hle := nfree_le t m
      generalize nfree t m = n0 at *
      cases hb : t.getD m false
      · rw [hb] at hc HN
        have HB := hid hb
        clear hb
        go_wp2_with fail
        go_roundg (gk - 1)
        case measure => omega
        case rel => exact ⟨m + 1, by omega, by go_num, by rw [HN.out]; go_num, rfl⟩
      · rw [hb] at hc HN
        have HB := hid hb
        clear hb
        go_wp2_with fail
        go_roundg (gk - 1)
        case measure => omega
        case rel => exact ⟨m + 1, by omega, by go_num, by rw [HN.out]; go_num, rfl⟩
    · have hlt' : ¬ (m : Int) < (k : Int) := by omega
      obtain rfl : m = k := by omega
      go_wp2_with fail
      go_ret
      exact ⟨rfl, HD.out⟩
end Go.Proofs.Yteohjfhflodklaa.Sp
