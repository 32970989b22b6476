/- What the program's 'Next', 'Sum' and 'Bytes' answer, whatever bytes come in: the sum of the plain mathematics; four bytes, the lowest first. Condition: the bytes are at most a million. -/
import Derived.Test.YtccahhehbpahoaaTab
namespace Go.Proofs.Ytccahhehbpahoaa.Crc
open Go.RowKit Crc

theorem T256_len : T256.length = 256 := by unfold T256; rw [List.length_map, List.length_range]
theorem T256_get (i : Nat) (h : i < 256) : T256.getD i 0 = shN 8 i := by
  unfold T256
  rw [List.getD_eq_getElem?_getD, List.getElem?_map, List.getElem?_range h]
  rfl
theorem take_run (c : Nat) (l : List Nat) (k : Nat) (h : k < l.length) : run c (l.take (k + 1)) = bs (run c (l.take k)) (l.getD k 0) := by
  rw [List.take_succ_eq_append_getElem h, run_append, List.getD_eq_getElem?_getD, List.getElem?_eq_getElem h]
  rfl

theorem u32_not (c : Nat) (hc : c < 4294967296) : bits .xor .u32 IntKind.u32.max (c : Int) = ((flip c : Nat) : Int) := by
  have := u32_xor_nat 4294967295 c (by decide) hc
  rw [flip_xor hc, Nat.xor_comm]
  exact this
theorem u8_low (c : Nat) : ((c : Int) % 256) = ((c % 256 : Nat) : Int) := by omega

set_option maxRecDepth 20000 in
set_option maxHeartbeats 1000000 in
theorem next_any (c : Nat) (hc : c < 4294967296) (a : Option Addr) (l : List Nat) (cap : Nat) (w : World) (hr : Row w a l) (hl : l.length ≤ 1000000) :
    Calls Try.prog 61 #[.int .u32 (c : Int), .slice a l.length cap] w fun e w' => e = .returned (.int .u32 (nx c l : Nat)) ∧ Below w.heap.size w w' := by
  have hz := zero99
  have HI : Hid ((Try.prog.info? 117).map (·.size) = some (row T256).size) := info99_row _ T256_len
  have HS : Hid ((row zeros).size = (row T256).size) := by show _ = _; rw [row_size, row_size, T256_len, zeros_len]
  go_enter Try.func61, Try.ntmps61
  go_wp2_with (first
    | (go_at_call 68; refine (table_any _).mono ?_; rintro e w1 ⟨rfl, hb1⟩)
    | (refine wpList_store_row rfl 117 _ _ rfl w1.heap.size (row T256) rfl rfl 117 (row zeros) (heap_alloc_new _ _) HI.out HS.out (row_one _) ?_))
  have HB : Hid (Below w.heap.size w ((w1.alloc (Obj.cells (row zeros) 117)).setRow w1.heap.size (row T256))) := below_setRow (hb1.alloc hb1.size _) hb1.size _
  have HT : Hid (((w1.alloc (Obj.cells (row zeros) 117)).setRow w1.heap.size (row T256)).heap[w1.heap.size]? = some (.cells (row T256) 117 (0, 0))) := setRow_heap _ _ _ _ _ _ (heap_alloc_new _ _)
  generalize (w1.alloc (Obj.cells (row zeros) 117)).setRow w1.heap.size (row T256) = W at HB HT ⊢
  generalize w1.heap.size = g at HB HT ⊢
  clear hz hb1
  rw [u32_not c hc]
  go_loopg [0, 13] l.length (fun k x i wr => ∃ n : Nat, n + k = l.length ∧ i = .int .i64 (n : Int) ∧ x = .int .u32 (run (flip c) (l.take n) : Nat) ∧ wr = W)
  case atStart => exact ⟨0, by omega, rfl, rfl, rfl⟩
  case round =>
    obtain ⟨n, hn, rfl, rfl, rfl⟩ := hrel
    have HN : Hid (n + gk = l.length) := hn
    have HW : Hid (Below w.heap.size w wr ∧ ∀ i, i < 256 → wr.cell? ⟨g, i, none⟩ = some (.int .u32 (shN 8 i : Nat))) := by
      refine ⟨HB.out, fun i hi => ?_⟩
      rw [cell_of_row wr _ i _ 117 (0, 0) HT.out, row_get T256 i (by rw [T256_len]; exact hi), T256_get i hi]
    have hcur := run_lt (l.take n) (flip_lt c) (fun x hx => hr.1 x (List.mem_of_mem_take hx))
    clear HB HT HI HS hn
    by_cases hlt : n < l.length
    · obtain ⟨b, off, rfl, hbl, hcell⟩ : ∃ b off, a = some ⟨b, off, none⟩ ∧ b < w.heap.size ∧ ∀ i, i < l.length → w.cell? ⟨b, off + i, none⟩ = some (.int .u8 (l.getD i 0 : Nat)) := by
        rcases hr.2 with h | h
        · rw [h] at hlt; simp at hlt
        · exact h
      have hts := take_run (flip c) l n hlt
      obtain ⟨x, hx⟩ : ∃ x, l.getD n 0 = x := ⟨_, rfl⟩
      obtain ⟨cur, hcu⟩ : ∃ x, run (flip c) (l.take n) = x := ⟨_, rfl⟩
      have hxl : x < 256 := by
        rw [← hx, List.getD_eq_getElem?_getD, List.getElem?_eq_getElem hlt]; exact hr.1 _ (List.getElem_mem hlt)
      have hcx : wr.cell? ⟨b, off + n, none⟩ = some (.int .u8 (x : Int)) := by
        rw [← hx]; exact (HW.out.1.cell (p := ⟨b, off + n, none⟩) hbl).trans (hcell n hlt)
      rw [hcu] at hcur hts ⊢
      rw [hx] at hts
      have HTS : Hid (run (flip c) (l.take (n + 1)) = bs cur x) := hts
      have hxx : cur % 256 ^^^ x < 256 := Nat.xor_lt_two_pow (n := 8) (by omega) (by omega)
      have hix : bits .xor .u8 ((cur : Int) % 256) (x : Int) = ((cur % 256 ^^^ x : Nat) : Int) := by
        rw [u8_low]; exact u8_xor_nat _ _ (by omega) hxl
      obtain ⟨j, hj⟩ : ∃ j, cur % 256 ^^^ x = j := ⟨_, rfl⟩
      rw [hj] at hix hxx
      have hct := HW.out.2 j hxx
      have h8 := shN_lt 8 (c := j) (by omega)
      have HJ : Hid (cur % 256 ^^^ x = j) := hj
      obtain ⟨t, ht⟩ : ∃ t, shN 8 j = t := ⟨_, rfl⟩
      rw [ht] at hct h8
      have HX : Hid (bits .xor .u32 ((cur : Int) / 256) (t : Int) = ((cur / 256 ^^^ t : Nat) : Int)) := by
        have := u32_xor_nat (cur / 256) t (by omega) h8
        show _ = _
        simpa using this
      have HB8 : Hid (bs cur x = cur / 256 ^^^ t) := by show _ = _; rw [bs_tab, hj, ht]
      clear hj ht hts hcu hx hcell hr
      go_wp2
      go_roundg (gk - 1)
      case measure => have := HN.out; omega
      case rel =>
        rw [HX.out, ← HB8.out, ← HTS.out]
        have := HN.out
        exact ⟨n + 1, by omega, by go_num, rfl, rfl⟩
    · have hn : l.take n = l := List.take_of_length_le (by omega)
      rw [hn] at hcur ⊢
      have H1 := u32_not _ hcur
      have HNX : Hid (nx c l = flip (run (flip c) l)) := rfl
      have HB := HW.out.1
      obtain ⟨r, hr'⟩ : ∃ r, run (flip c) l = r := ⟨_, rfl⟩
      rw [hr'] at hcur H1 HNX ⊢
      clear hr hn hr' HW
      go_wp2
      all_goals
        go_ret
        exact ⟨by rw [HNX.out]; rfl, HB⟩

def four (c : Nat) : List Nat := [c % 256, c / 256 % 256, c / 65536 % 256, c / 16777216]

theorem sum_any (a : Option Addr) (l : List Nat) (cap : Nat) (w : World) (hr : Row w a l) (hl : l.length ≤ 1000000) :
    Calls Try.prog 47 #[.slice a l.length cap] w fun e w' => e = .returned (.int .u32 (nx 0 l : Nat)) ∧ Below w.heap.size w w' := by
  go_enter Try.func47, Try.ntmps47
  go_wp2_with (go_at_call 61; refine (next_any 0 (by decide) a l cap _ hr hl).mono ?_; rintro e w1 ⟨rfl, hb1⟩)
  go_ret
  exact ⟨rfl, hb1⟩

end Go.Proofs.Ytccahhehbpahoaa.Crc
