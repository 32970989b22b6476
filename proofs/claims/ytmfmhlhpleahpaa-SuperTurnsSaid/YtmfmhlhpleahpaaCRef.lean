/- What the document's own answer, bit by bit, is: the sum of the plain mathematics, whatever bytes come in. Condition: the bytes are at most a million. -/
import Derived.Test.YtmfmhlhpleahpaaNext
namespace Go.Proofs.Ytmfmhlhpleahpaa.Crc
open Go.RowKit Crc

theorem shN_succ (k c : Nat) : shN (k + 1) c = sh (shN k c) := by rw [shN_add]; rfl
theorem u32_xor_byte (c x : Nat) (hc : c < 4294967296) (hx : x < 256) : bits .xor .u32 (c : Int) (x : Int) = ((c ^^^ x : Nat) : Int) := u32_xor_nat c x hc (by omega)

set_option maxHeartbeats 1000000 in
theorem ref_any (c : Nat) (hc : c < 4294967296) (a : Option Addr) (l : List Nat) (cap : Nat) (w : World) (hr : Row w a l) (hl : l.length ≤ 1000000) :
    Calls Try.prog 34 #[.int .u32 (c : Int), .slice a l.length cap] w fun e w' => e = .returned (.int .u32 (nx c l : Nat)) ∧ w' = w := by
  go_enter Try.func34, Try.ntmps34
  go_wp2
  rw [u32_not c hc]
  go_loopg [0, 5] l.length (fun k x i wr => ∃ n : Nat, n + k = l.length ∧ i = .int .i64 (n : Int) ∧ x = .int .u32 (run (flip c) (l.take n) : Nat) ∧ wr = w)
  case atStart => exact ⟨0, by omega, rfl, rfl, rfl⟩
  case round =>
    obtain ⟨n, hn, rfl, rfl, rfl⟩ := hrel
    have HN : Hid (n + gk = l.length) := hn
    have hcur := run_lt (l.take n) (flip_lt c) (fun x hx => hr.1 x (List.mem_of_mem_take hx))
    clear hn
    by_cases hlt : n < l.length
    · obtain ⟨b, off, rfl, hbl, hcell⟩ : ∃ b off, a = some ⟨b, off, none⟩ ∧ b < wr.heap.size ∧ ∀ i, i < l.length → wr.cell? ⟨b, off + i, none⟩ = some (.int .u8 (l.getD i 0 : Nat)) := by
        rcases hr.2 with h | h
        · rw [h] at hlt; simp at hlt
        · exact h
      have hts := take_run (flip c) l n hlt
      obtain ⟨x, hx⟩ : ∃ x, l.getD n 0 = x := ⟨_, rfl⟩
      obtain ⟨cur, hcu⟩ : ∃ x, run (flip c) (l.take n) = x := ⟨_, rfl⟩
      have hxl : x < 256 := by
        rw [← hx, List.getD_eq_getElem?_getD, List.getElem?_eq_getElem hlt]; exact hr.1 _ (List.getElem_mem hlt)
      have hcx : wr.cell? ⟨b, off + n, none⟩ = some (.int .u8 (x : Int)) := by rw [← hx]; exact hcell n hlt
      rw [hcu] at hcur hts ⊢
      rw [hx] at hts
      have HTS : Hid (run (flip c) (l.take (n + 1)) = shN 8 (cur ^^^ x)) := hts
      have hix := u32_xor_byte cur x hcur hxl
      have hy : cur ^^^ x < 4294967296 := Nat.xor_lt_two_pow (n := 32) hcur (by omega)
      obtain ⟨y, hyy⟩ : ∃ y, cur ^^^ x = y := ⟨_, rfl⟩
      rw [hyy] at HTS hix hy
      clear hts hcu hx hcell hr hyy
      go_wp2
      go_loopg [0, 6] 8 (fun k z i wq => ∃ m : Nat, m + k = 8 ∧ i = .int .i64 (m : Int) ∧ z = .int .u32 (shN m y : Nat) ∧ wq = wr)
      case atStart => exact ⟨0, by omega, rfl, rfl, rfl⟩
      case round =>
        obtain ⟨m, hm, rfl, rfl, rfl⟩ := hrel
        have HM : Hid (m + gk = 8) := hm
        have hz := shN_lt m hy
        by_cases hlt2 : m < 8
        · have hsu := shN_succ m y
          obtain ⟨z, hzz⟩ : ∃ z, shN m y = z := ⟨_, rfl⟩
          rw [hzz] at hz hsu ⊢
          have HS : Hid (shN (m + 1) y = sh z) := hsu
          have h1 := u32_low z hz
          have H2 : Hid (bits .xor .u32 ((z : Int) / 2) 2197175160 = ((z / 2 ^^^ 2197175160 : Nat) : Int)) := by
            have := u32_xor_nat (z / 2) 2197175160 (by omega) (by decide)
            show _ = _
            simpa using this
          clear hm hzz hsu hix
          by_cases h : z % 2 = 1
          · have e : Hid (sh z = z / 2 ^^^ 2197175160) := by show _ = _; unfold sh; rw [if_pos h]
            have ht : (bits .and .u32 (z : Int) 1 == 1) = true := by rw [h1, h]; rfl
            clear h1
            go_wp2
            go_roundg (gk - 1)
            case measure => have := HM.out; omega
            case rel =>
              rw [H2.out, ← e.out, ← HS.out]
              have := HM.out
              exact ⟨m + 1, by omega, by go_num, rfl, rfl⟩
          · have e : Hid (sh z = z / 2) := by show _ = _; unfold sh; rw [if_neg h]
            have h0 : z % 2 = 0 := by omega
            have ht : (bits .and .u32 (z : Int) 1 == 1) = false := by rw [h1, h0]; rfl
            clear h1 h0
            go_wp2
            go_roundg (gk - 1)
            case measure => have := HM.out; omega
            case rel =>
              have := HM.out
              exact ⟨m + 1, by omega, by go_num, by rw [HS.out, e.out]; go_num, rfl⟩
        · obtain rfl : m = 8 := by omega
          rw [← HTS.out] at hz ⊢
          have HN2 := HN.out
          clear hm HM hix HTS
          go_wp2
          go_roundg (l.length - (n + 1))
          case measure => omega
          case rel => exact ⟨n + 1, by omega, by go_num, rfl, rfl⟩
    · have hn : l.take n = l := List.take_of_length_le (by omega)
      rw [hn] at hcur ⊢
      have H1 := u32_not _ hcur
      have HNX : Hid (nx c l = flip (run (flip c) l)) := rfl
      obtain ⟨r, hr'⟩ : ∃ r, run (flip c) l = r := ⟨_, rfl⟩
      rw [hr'] at hcur H1 HNX ⊢
      clear hr hn hr'
      go_wp2
      all_goals
        go_ret
        exact ⟨by rw [HNX.out]; rfl, rfl⟩
end Go.Proofs.Ytmfmhlhpleahpaa.Crc
