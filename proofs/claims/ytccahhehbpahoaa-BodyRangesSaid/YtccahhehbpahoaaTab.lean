/- What the program's 'shift' and 'table' answer, whatever the world: the shift of the plain mathematics; the 256 numbers that eight shifts make of 0 to 255. No condition. -/
import Derived.Test.YtccahhehbpahoaaMem
import Derived.Test.YtccahhehbpahoaaCMath
namespace Go.Proofs.Ytccahhehbpahoaa.Crc
open Go.RowKit Crc

theorem u32_xor_n (a b : Nat) (ha : a < 4294967296) (hb : b < 4294967296) : bits .xor .u32 (a : Int) (b : Int) = ((a ^^^ b : Nat) : Int) := u32_xor_nat a b ha hb
theorem u32_low (c : Nat) (hc : c < 4294967296) : bits .and .u32 (c : Int) 1 = ((c % 2 : Nat) : Int) := by
  have := u32_and_nat c 1 hc (by decide)
  rw [nat_mask1] at this
  exact this

theorem shift_any (c : Nat) (hc : c < 4294967296) (w : World) :
    Calls Try.prog 70 #[.int .u32 (c : Int)] w fun e w' => e = .returned (.int .u32 (sh c : Nat)) ∧ w' = w := by
  have h1 := u32_low c hc
  have h2 : bits .xor .u32 ((c : Int) / 2) 2197175160 = ((c / 2 ^^^ 2197175160 : Nat) : Int) := by
    have := u32_xor_nat (c / 2) 2197175160 (by omega) (by decide)
    simpa using this
  by_cases h : c % 2 = 1
  · have e : sh c = c / 2 ^^^ 2197175160 := by unfold sh; rw [if_pos h]
    have ht : (bits .and .u32 (c : Int) 1 == 1) = true := by rw [h1, h]; rfl
    have H1 : Hid (bits .xor .u32 ((c : Int) / 2) 2197175160 = ((c / 2 ^^^ 2197175160 : Nat) : Int)) := h2
    clear h1 h2
    go_enter Try.func70, Try.ntmps70
    go_wp2
    go_ret
    refine ⟨?_, rfl⟩
    rw [e, ← H1.out]
    rfl
  · have e : sh c = c / 2 := by unfold sh; rw [if_neg h]
    have h0 : c % 2 = 0 := by omega
    have ht : (bits .and .u32 (c : Int) 1 == 1) = false := by rw [h1, h0]; rfl
    clear h1 h2
    go_enter Try.func70, Try.ntmps70
    go_wp2
    go_ret
    refine ⟨?_, rfl⟩
    rw [e]
    rfl

/-- The inner loop, on a list. -/
def inF (bit one : Nat) : Nat → Nat → List Nat → Option (List Nat)
  | 0, _, _ => none
  | f + 1, a, l => if a < 256 then (if a + bit < 256 then inF bit one f (a + 2 * bit) (l.set (a + bit) (l.getD a 0 ^^^ one)) else none) else some l
def outF : Nat → Nat → Nat → List Nat → Option (List Nat)
  | 0, _, _, _ => none
  | f + 1, bit, one, l => if 0 < bit then (match inF bit (sh one) 257 0 l with | some m => outF f (bit / 2) (sh one) m | none => none) else some l
def zeros : List Nat := List.replicate 256 0
def T256 : List Nat := (List.range 256).map (shN 8)
theorem out_all : outF 9 128 1 zeros = some T256 := by decide +kernel
def row (l : List Nat) : Array Value := (l.map fun n : Nat => Value.int .u32 (n : Int)).toArray
theorem zero99 (w : World) : (zeroValue 117).run Try.prog w = .ok (.agg (row zeros)) w := by kernel_rfl
theorem row_size (l : List Nat) : (row l).size = l.length := by simp [row]
theorem row_get (l : List Nat) (i : Nat) (h : i < l.length) : (row l)[i]? = some (.int .u32 (l.getD i 0 : Nat)) := by
  simp [row, h]
theorem row_set (l : List Nat) (i n : Nat) : (row l).setIfInBounds i (.int .u32 (n : Int)) = row (l.set i n) := by
  simp [row, List.map_set]
theorem row_one (l : List Nat) : (row l).all (·.oneCell') = true := by
  simp [row, Value.oneCell']

theorem zeros_len : zeros.length = 256 := by unfold zeros; exact List.length_replicate
theorem zeros_lt : ∀ x ∈ zeros, x < 4294967296 := by unfold zeros; intro x hx; rw [List.eq_of_mem_replicate hx]; decide
theorem getD_lt (l : List Nat) (i : Nat) (h : ∀ x ∈ l, x < 4294967296) : l.getD i 0 < 4294967296 := by
  by_cases hi : i < l.length
  · rw [List.getD_eq_getElem?_getD, List.getElem?_eq_getElem hi]; exact h _ (List.getElem_mem hi)
  · rw [List.getD_eq_getElem?_getD, List.getElem?_eq_none (by omega)]; decide
theorem set_lt (l : List Nat) (i n : Nat) (h : ∀ x ∈ l, x < 4294967296) (hn : n < 4294967296) : ∀ x ∈ l.set i n, x < 4294967296 := by
  intro x hx
  rcases List.mem_or_eq_of_mem_set hx with h1 | h1
  · exact h x h1
  · omega

/-- The two blocks of 'table' and the numbers in the second. -/
structure Mem (w wr : World) (l : List Nat) : Prop where
  res : wr.heap[w.heap.size]? = some (.cells (row zeros) 117 (0, 0))
  tab : wr.heap[w.heap.size + 1]? = some (.cells (row l) 117 (0, 0))
  low : Below w.heap.size w wr
  len : l.length = 256
  lt : ∀ x ∈ l, x < 4294967296
theorem Mem.cell {w wr : World} {l : List Nat} (h : Mem w wr l) (i : Nat) (hi : i < 256) : wr.cell? ⟨w.heap.size + 1, i, none⟩ = some (.int .u32 (l.getD i 0 : Nat)) := by
  rw [cell_of_row wr _ i _ 117 (0, 0) h.tab, row_get l i (by rw [h.len]; exact hi)]
theorem Mem.frozen {w wr : World} {l : List Nat} (h : Mem w wr l) (i : Nat) : wr.frozen? ⟨w.heap.size + 1, i, none⟩ = false := frozen_of_row wr _ i _ 117 h.tab
theorem Mem.set {w wr : World} {l : List Nat} (h : Mem w wr l) (i n : Nat) (hn : n < 4294967296) : Mem w (wr.setCell ⟨w.heap.size + 1, i, none⟩ (.int .u32 (n : Int))) (l.set i n) where
  res := by rw [heap_setCell_other _ _ _ _ (by simp)]; exact h.res
  tab := by rw [heap_setCell_same _ _ _ _ _ _ h.tab, row_set]
  low := h.low.setCell (by simp) _
  len := by simp [h.len]
  lt := set_lt l i n h.lt hn

theorem below_setRow {B : Nat} {a w : World} (h : Below B a w) {g : Nat} (hg : B ≤ g) (cs : Array Value) : Below B a (w.setRow g cs) :=
  ⟨h.os, h.tape, h.output, by rw [setRow_size]; exact h.size, fun k hk => (setRow_other w g k cs (by omega)).trans (h.block k hk)⟩
theorem info99 : (Try.prog.info? 117).map (·.size) = some 256 := by kernel_rfl
theorem info99_row (l : List Nat) (h : l.length = 256) : (Try.prog.info? 117).map (·.size) = some (row l).size := by rw [row_size, h]; exact info99
theorem out_end {k one : Nat} {l : List Nat} (h : outF k 0 one l = some T256) : l = T256 := by
  cases k with
  | zero => simp [outF] at h
  | succ k => simpa [outF] using h
theorem out_more {k bit one : Nat} {l : List Nat} (hb : 0 < bit) (h : outF k bit one l = some T256) : ∃ k' m, k = k' + 1 ∧ inF bit (sh one) 257 0 l = some m ∧ outF k' (bit / 2) (sh one) m = some T256 := by
  cases k with
  | zero => simp [outF] at h
  | succ k =>
    rw [outF, if_pos hb] at h
    cases hm : inF bit (sh one) 257 0 l with
    | none => rw [hm] at h; cases h
    | some m => rw [hm] at h; exact ⟨k, m, rfl, rfl, h⟩
theorem in_end {k bit one a : Nat} {l m : List Nat} (ha : ¬ a < 256) (h : inF bit one k a l = some m) : l = m := by
  cases k with
  | zero => simp [inF] at h
  | succ k => simpa [inF, ha] using h
theorem in_more {k bit one a : Nat} {l m : List Nat} (ha : a < 256) (h : inF bit one k a l = some m) : ∃ k', k = k' + 1 ∧ a + bit < 256 ∧ inF bit one k' (a + 2 * bit) (l.set (a + bit) (l.getD a 0 ^^^ one)) = some m := by
  cases k with
  | zero => simp [inF] at h
  | succ k =>
    rw [inF, if_pos ha] at h
    by_cases hb : a + bit < 256
    · rw [if_pos hb] at h; exact ⟨k, rfl, hb, h⟩
    · rw [if_neg hb] at h; cases h

set_option maxRecDepth 20000 in
set_option maxHeartbeats 1000000 in
theorem table_any (w : World) :
    Calls Try.prog 68 #[] w fun e w' => e = .returned (.agg (row T256)) ∧ Below w.heap.size w w' := by
  have hz := zero99
  go_enter Try.func68, Try.ntmps68
  go_wp2
  go_loopg [2, 3] 9 (fun k o b wr => ∃ (one bit : Nat) (l : List Nat), o = .int .u32 (one : Int) ∧ b = .int .i64 (bit : Int) ∧ one < 4294967296 ∧ bit ≤ 128 ∧ Mem w wr l ∧ Hid (outF k bit one l = some T256))
  case atStart => exact ⟨1, 128, zeros, rfl, rfl, by decide, by decide, ⟨heap_alloc2_old _ _ _, heap_alloc2_new _ _ _, ((Below.refl _ _).alloc (Nat.le_refl _) _).alloc (by simp) _, zeros_len, zeros_lt⟩, out_all⟩
  case round =>
    obtain ⟨one, bit, l, rfl, rfl, h1, hb, hm, ho⟩ := hrel
    clear hz
    by_cases hbit : 0 < bit
    · obtain ⟨k', m, hk, hin, hout⟩ := out_more hbit ho.out
      obtain ⟨o2, ho2⟩ : ∃ v, sh one = v := ⟨_, rfl⟩
      have hcall := fun w => shift_any one h1 w
      have hs := sh_lt h1
      rw [ho2] at hcall hin hout hs
      have HK : Hid (gk = k' + 1) := hk
      have HI : Hid (inF bit o2 257 0 l = some m) := hin
      have HO : Hid (outF k' (bit / 2) o2 m = some T256) := hout
      clear hk hin hout ho ho2
      go_wp2_with (go_at_call 70; refine (hcall _).mono ?_; rintro e w' ⟨rfl, rfl⟩)
      clear hcall
      go_loopg [4] 257 (fun k x wr => ∃ (a : Nat) (l' : List Nat), x = .int .i64 (a : Int) ∧ a ≤ 512 ∧ Mem w wr l' ∧ Hid (inF bit o2 k a l' = some m))
      case atStart => exact ⟨0, l, rfl, by decide, hm, HI⟩
      case round =>
        obtain ⟨a, l', rfl, ha, hm', hi⟩ := hrel
        clear hm HI
        by_cases hlt : a < 256
        · obtain ⟨k2, hk2, hab, hin2⟩ := in_more hlt hi.out
          obtain ⟨v, hv⟩ : ∃ v, l'.getD a 0 = v := ⟨_, rfl⟩
          obtain ⟨v2, hv2⟩ : ∃ v, l'.getD (a + bit) 0 = v := ⟨_, rfl⟩
          have hvlt : v < 4294967296 := by rw [← hv]; exact getD_lt _ _ hm'.lt
          have hc : wr.cell? ⟨w.heap.size + 1, a, none⟩ = some (.int .u32 (v : Int)) := by rw [← hv]; exact hm'.cell a hlt
          have hc2 : wr.cell? ⟨w.heap.size + 1, a + bit, none⟩ = some (.int .u32 (v2 : Int)) := by rw [← hv2]; exact hm'.cell (a + bit) hab
          have hf2 := hm'.frozen (a + bit)
          rw [hv] at hin2
          have HX : Hid (bits .xor .u32 (v : Int) (o2 : Int) = ((v ^^^ o2 : Nat) : Int)) := u32_xor_n v o2 hvlt hs
          have HK2 : Hid (gk = k2 + 1) := hk2
          have HI2 : Hid (inF bit o2 k2 (a + 2 * bit) (l'.set (a + bit) (v ^^^ o2)) = some m) := hin2
          clear hk2 hin2 hi hv hv2
          go_wp2
          go_roundg k2
          case measure => have := HK2.out; omega
          case rel =>
            rw [HX.out]
            exact ⟨a + 2 * bit, l'.set (a + bit) (v ^^^ o2), by go_num, by omega, hm'.set (a + bit) (v ^^^ o2) (Nat.xor_lt_two_pow (n := 32) hvlt hs), HI2⟩
        · have hl := in_end hlt hi.out
          subst hl
          clear hi
          go_wp2
          go_roundg k'
          case measure => have := HK.out; omega
          case rel => exact ⟨o2, bit / 2, l', rfl, by go_num, hs, by omega, hm', HO⟩
    · obtain rfl : bit = 0 := by omega
      have hl := out_end ho.out
      subst hl
      clear ho
      have HI : Hid ((Try.prog.info? 117).map (·.size) = some (row T256).size) := info99_row _ hm.len
      have HS : Hid ((row zeros).size = (row T256).size) := by show _ = _; rw [row_size, row_size, hm.len, zeros_len]
      go_wp2_with (first
        | (refine wpList_load_row rfl 117 _ rfl (w.heap.size + 1) rfl 117 (row T256) (0, 0) _ hm.tab Try.underlying117 rfl HI.out ?_)
        | (refine wpList_store_row rfl 117 _ _ rfl w.heap.size (row T256) rfl rfl 117 (row zeros) hm.res HI.out HS.out (row_one _) ?_))
      refine bodyPost_ret (v := .agg (row T256)) (results_cell_row (ty := 117) (p := 0) Try.results68 _ _ w.heap.size 117 (row T256) (0, 0) _ rfl (setRow_heap _ _ _ _ _ _ hm.res) Try.underlying117 rfl HI.out) rfl ⟨rfl, ?_⟩
      exact below_setRow hm.low (Nat.le_refl _) _
end Go.Proofs.Ytccahhehbpahoaa.Crc
