/- What full, stays and a disk's Read answer. Condition: fewer than a thousand million operations were done. -/
import Derived.Test.YteohjfhflodklaaDiskB
namespace Go.Proofs.Yteohjfhflodklaa
open Go.RowKit
set_option maxRecDepth 4000
/-- At g lie the bytes l, a block of their own. -/
def Buf (w : World) (g : Nat) (l : List Nat) : Prop := w.heap[g]? = some (.cells (row8 l) 5 (0, 0)) ∧ ∀ x ∈ l, x < 256
theorem Buf.lt {w : World} {g : Nat} {l : List Nat} (h : Buf w g l) : g < w.heap.size := (Array.getElem?_eq_some_iff.1 h.1).1
theorem Buf.cell {w : World} {g : Nat} {l : List Nat} (h : Buf w g l) (i : Nat) (hi : i < l.length) : w.cell? ⟨g, i, none⟩ = some (.int .u8 (l.getD i 0 : Nat)) := by
  rw [cell_of_row w _ i _ 5 (0, 0) h.1, row8_get l i hi]
theorem Buf.frozen {w : World} {g : Nat} {l : List Nat} (h : Buf w g l) (i : Nat) : w.frozen? ⟨g, i, none⟩ = false := frozen_of_row w _ i _ 5 h.1
theorem row8_set (l : List Nat) (i n : Nat) : (row8 l).setIfInBounds i (.int .u8 (n : Int)) = row8 (l.set i n) := by
  simp [row8, vals, List.map_set]
theorem Buf.set {w : World} {g : Nat} {l : List Nat} (h : Buf w g l) (i n : Nat) (hn : n < 256) : Buf (w.setCell ⟨g, i, none⟩ (.int .u8 (n : Int))) g (l.set i n) := by
  refine ⟨by rw [heap_setCell_same _ _ _ _ _ _ h.1, row8_set], fun x hx => ?_⟩
  rcases List.mem_or_eq_of_mem_set hx with h1 | h1
  · exact h.2 x h1
  · omega
theorem Buf.row {w : World} {g : Nat} {l : List Nat} (h : Buf w g l) : Row w (some ⟨g, 0, none⟩) l :=
  ⟨h.2, .inr ⟨g, 0, rfl, h.lt, fun i hi => by rw [Nat.zero_add]; exact h.cell i hi⟩⟩
theorem Buf.kept {w w' : World} {g : Nat} {l : List Nat} (h : Buf w g l) (hk : w'.heap[g]? = w.heap[g]?) : Buf w' g l := ⟨hk.trans h.1, h.2⟩
theorem Buf.below {w w' : World} {g : Nat} {l : List Nat} (h : Buf w g l) (hb : Below w.heap.size w w') : Buf w' g l := h.kept (hb.block g h.lt)
theorem Buf.only {w w' : World} {q g : Nat} {o : Option Nat} {l : List Nat} (h : Buf w g l) (ho : Only q o w w') (h1 : g ≠ q) (h2 : some g ≠ o) : Buf w' g l := h.kept (ho.block g h.lt h1 h2)
/-- It is no disk's block. -/
theorem Buf.no {w : World} {q p g : Nat} {d : Dk} {l : List Nat} (h : Buf w g l) (hd : DiskAt w q p d) : g ≠ q ∧ g ≠ p := by
  obtain ⟨z, h1, h2, _⟩ := hd
  refine ⟨fun e => ?_, fun e => ?_⟩
  · subst e; have := h.1; rw [h1] at this; simp at this
  · subst e; have := h.1; rw [h2] at this; simp at this
theorem Buf.kept_disk {w w' : World} {q p g : Nat} {d : Dk} {l : List Nat} (h : Buf w g l) (hd : DiskAt w q p d) (ho : Only q (some p) w w') : Buf w' g l :=
  h.only ho (h.no hd).1 (fun e => (h.no hd).2 (by simpa using e))
theorem made_row8 (n : Nat) : madeCells #[.int .u8 0] n = row8 (List.replicate n 0) := by
  apply Array.ext
  · simp [row8, vals, size_madeCells]
  · intro i h1 h2
    simp [madeCells, row8, vals, Nat.mod_one]
theorem make64 (w : World) : (Instr.makeSlice 40 (.int .i64 64) (.int .i64 64)).run Try.prog w = .ok (.slice (some ⟨w.heap.size, 0, none⟩) 64 64) (w.alloc (.cells (row8 zeros) 5)) := by
  have := run_make_row' 40 5 (.int .u8 0) 1 Try.underlying40 info5 rfl .i64 .i64 64 (by omega) (by omega) w
  rw [made_row8] at this
  exact this
theorem buf_new (w : World) (l : List Nat) (hl : ∀ x ∈ l, x < 256) : Buf (w.alloc (.cells (row8 l) 5)) w.heap.size l := ⟨heap_alloc_new w _, hl⟩

/-! ### full -/
def rep (b : List Nat) (i : Nat) : Nat := if b = [] then 0 else b.getD (i % b.length) 0
def full (b : List Nat) : List Nat := (List.range 64).map (rep b)
theorem rep_lt {b : List Nat} (hb : ∀ x ∈ b, x < 256) (i : Nat) : rep b i < 256 := by
  unfold rep
  split
  · decide
  · rename_i h
    have : i % b.length < b.length := Nat.mod_lt _ (List.length_pos_iff.2 h)
    rw [List.getD_eq_getElem?_getD, List.getElem?_eq_getElem this]
    exact hb _ (List.getElem_mem this)
theorem bytes_full {b : List Nat} (hb : ∀ x ∈ b, x < 256) : Bytes (full b) := by
  refine ⟨by simp [full], fun x hx => ?_⟩
  obtain ⟨i, _, rfl⟩ := List.mem_map.1 hx
  exact rep_lt hb i
theorem full_nil : full [] = zeros := by simp [full, zeros]; decide
def part (b : List Nat) (k : Nat) : List Nat := (List.range 64).map fun i => if i < k then rep b i else 0
theorem part_zero (b : List Nat) : part b 0 = zeros := by simp [part, zeros]; decide
theorem part_all (b : List Nat) : part b 64 = full b := by
  unfold part full
  apply List.map_congr_left
  intro i hi
  rw [if_pos (by simpa using hi)]
theorem part_len (b : List Nat) (k : Nat) : (part b k).length = 64 := by simp [part]
theorem part_set (b : List Nat) (k : Nat) (hk : k < 64) : (part b k).set k (rep b k) = part b (k + 1) := by
  apply List.ext_getElem?
  intro i
  by_cases hi : i < 64
  · rw [List.getElem?_set]
    by_cases e : k = i
    · subst e; simp [part, hk]
    · rw [if_neg e]
      simp only [part, List.getElem?_map, List.getElem?_range hi, Option.map_some, Option.some.injEq]
      by_cases h1 : i < k
      · rw [if_pos h1, if_pos (by omega)]
      · rw [if_neg h1, if_neg (by omega)]
  · rw [List.getElem?_eq_none (by simp [part]; omega), List.getElem?_eq_none (by simp [part]; omega)]
theorem Row.cell {w : World} {a : Option Addr} {l : List Nat} (h : Row w a l) (hl : l ≠ []) : ∃ b off, a = some ⟨b, off, none⟩ ∧ ∀ i, i < l.length → w.cell? ⟨b, off + i, none⟩ = some (.int .u8 (l.getD i 0 : Nat)) := by
  rcases h.2 with h | ⟨b, off, ha, _, hc⟩
  · exact absurd h hl
  · exact ⟨b, off, ha, hc⟩
def stay (c : List Nat) (k : Nat) : Nat := if rep c k % 4 = 1 then 64 else if rep c k % 4 = 3 then rep c k / 4 else 0
theorem stay_le {c : List Nat} (hc : ∀ x ∈ c, x < 256) (k : Nat) : stay c k ≤ 64 := by
  have := rep_lt hc k
  unfold stay
  split
  · omega
  · split <;> omega
set_option maxHeartbeats 1000000 in
theorem stays_any (w : World) (a : Option Addr) (c : List Nat) (n cap k : Nat) (hr : Row w a c) (hn : c.length = n) (hm : n ≤ 1000000) (hk : k ≤ 1000000) :
    Calls Try.prog 43 #[.slice a n cap, .int .i64 (k : Int)] w fun e w' => e = .returned (.int .i64 (stay c k : Nat)) ∧ w' = w := by
  by_cases h0 : c = []
  · subst h0
    obtain rfl : n = 0 := by simpa using hn.symm
    clear hr hn hm
    have e0 : stay [] k = 0 := by simp [stay, rep]
    rw [e0]
    go_enter Try.func43, Try.ntmps43
    go_wp2_with fail
    go_ret
    exact ⟨rfl, rfl⟩
  · obtain ⟨p0, o0, rfl, hc⟩ := hr.cell h0
    have hpos : 0 < c.length := List.length_pos_iff.2 h0
    have hlt := Nat.mod_lt k hpos
    have hc0 := hc _ hlt
    have hR : c.getD (k % c.length) 0 = rep c k := by rw [rep, if_neg h0]
    rw [hR] at hc0
    have hRl := rep_lt hr.1 k
    subst hn
    have htm : Int.tmod (k : Int) (c.length : Int) = ((k % c.length : Nat) : Int) := by rw [Int.tmod_eq_emod_of_nonneg (by omega)]; simp
    have hbi : ¬ ((c.length : Int) = 0) := by omega
    have hmod : ((k : Int) % (c.length : Int)) = ((k % c.length : Nat) : Int) := by simp
    unfold stay
    generalize k % c.length = j at *
    generalize rep c k = R at *
    have ht4 : Int.tmod (R : Int) 4 = ((R % 4 : Nat) : Int) := by rw [Int.tmod_eq_emod_of_nonneg (by omega)]; simp
    have hq4 : Int.tdiv (R : Int) 4 = ((R / 4 : Nat) : Int) := by rw [Int.tdiv_eq_ediv_of_nonneg (by omega)]; simp
    have hm4 : (R : Int) % 4 = ((R % 4 : Nat) : Int) := by simp
    have hd4 : (R : Int) / 4 = ((R / 4 : Nat) : Int) := by simp
    generalize hr4 : R % 4 = r at *
    generalize hq : R / 4 = Q at *
    have hr3 : r < 4 := by omega
    have hQ : Q < 64 := by omega
    clear hc hR hr h0 hr4 hq
    by_cases h1 : r = 1
    · subst h1
      rw [if_pos rfl]
      go_enter Try.func43, Try.ntmps43
      go_wp2_with fail
      go_ret
      exact ⟨rfl, rfl⟩
    · rw [if_neg h1]
      have t1 : ((r : Int) == 1) = false := by simp; omega
      have t1' : ¬ ((r : Int) = 1) := by omega
      by_cases h3 : r = 3
      · subst h3
        rw [if_pos rfl]
        go_enter Try.func43, Try.ntmps43
        go_wp2_with fail
        go_ret
        exact ⟨rfl, rfl⟩
      · rw [if_neg h3]
        have t3 : ((r : Int) == 3) = false := by simp; omega
        have t3' : ¬ ((r : Int) = 3) := by omega
        clear h1 h3
        go_enter Try.func43, Try.ntmps43
        go_wp2_with fail
        go_ret
        exact ⟨rfl, rfl⟩

/-! ### Read -/
def Dk.read (d : Dk) (i : Nat) : List Nat := (d.secs.getD i blank).last
theorem DiskAt.range {w : World} {q p : Nat} {d : Dk} (h : DiskAt w q p d) (i : Nat) (hi : i < d.secs.length) : w.rangeAt p (i * 129) (secCells (d.secs.getD i blank)) := fun j v hv => by
  have hj : j < 129 := by have := (List.getElem?_eq_some_iff.1 hv).1; rwa [secCells_len (h.ok.1.get i hi)] at this
  rw [cell_of_row w p _ _ 86 (0, 0) h.row, List.getElem?_toArray, secs_get h.ok.1 i j hi hj]
  exact hv
set_option maxHeartbeats 1000000 in
theorem read_dead {w : World} {q p : Nat} {d : Dk} (h : DiskAt w q p d) (hdead : d.dead = true) (z : Int) :
    Calls Try.prog 23 #[.pointer (some ⟨q, 0, none⟩), .int .i64 z] w fun e w' => e = .returned (.tuple #[.slice none 0 0, .int .i64 15]) ∧ w' = w := by
  obtain ⟨y, h1, h2, h3, h4, h5⟩ := h
  obtain ⟨c0, c1, c2, c3, c4, cf⟩ := DiskAt.cells h1
  rw [hdead] at c4
  clear h1 h2 h3 h4 h5 hdead c0 c1 c2 c3 cf
  go_enter Try.func23, Try.ntmps23
  go_wp2_with fail
  go_ret2
  exact ⟨rfl, rfl⟩
set_option maxHeartbeats 1000000 in
theorem read_arg {w : World} {q p : Nat} {d : Dk} (h : DiskAt w q p d) (hdead : d.dead = false) (z : Int) (hz : d.has z = false) :
    Calls Try.prog 23 #[.pointer (some ⟨q, 0, none⟩), .int .i64 z] w fun e w' => e = .returned (.tuple #[.slice none 0 0, .int .i64 1]) ∧ w' = w := by
  have HD := hid h
  obtain ⟨y, h1, h2, h3, h4, h5⟩ := h
  obtain ⟨c0, c1, c2, c3, c4, cf⟩ := DiskAt.cells h1
  rw [hdead] at c4
  clear h1 h2 h3 h4 h5 hdead c0 c1 c2 c3 cf
  go_enter Try.func23, Try.ntmps23
  go_wp2_with fail
  refine (has_any HD.out z).mono ?_
  rintro e w1 ⟨rfl, rfl⟩
  rw [hz]
  go_wp2_with fail
  go_ret2
  exact ⟨rfl, rfl⟩
set_option maxHeartbeats 1000000 in
theorem read_ok {w : World} {q p i : Nat} {d : Dk} (h : DiskAt w q p d) (hdead : d.dead = false) (hi : i < d.secs.length) :
    Calls Try.prog 23 #[.pointer (some ⟨q, 0, none⟩), .int .i64 (i : Int)] w fun e w' => ∃ g, e = .returned (.tuple #[.slice (some ⟨g, 0, none⟩) 64 64, .int .i64 0]) ∧ Buf w' g (d.read i) ∧ Below w.heap.size w w' ∧ w.heap.size ≤ g := by
  have HD := hid h
  have hlen := h.ok.2
  have hhas : d.has (i : Int) = true := by simp [Dk.has, hi]
  have HS := hid (h.ok.1.get i hi)
  have HL := hid (load64 w p (i * 129) _ HS.out (h.range i hi))
  have hmk := make64
  unfold Dk.read
  obtain ⟨y, h1, h2, h3, h4, h5⟩ := h
  obtain ⟨c0, c1, c2, c3, c4, cf⟩ := DiskAt.cells h1
  rw [hdead] at c4
  clear h1 h2 h3 h4 h5 hdead c1 c2 c3 cf
  generalize d.secs.getD i blank = s at *
  have HN : Hid (d.secs.length = d.secs.length) := rfl
  go_enter Try.func23, Try.ntmps23
  go_wp2_with fail
  refine (has_any HD.out i).mono ?_
  rintro e w1 ⟨rfl, rfl⟩
  rw [hhas]
  generalize d.secs.length = n at *
  go_wp2_with (first | refine step_load 86 rfl _ rfl _ HL.out ?_)
  refine (last_any _ s HS.out).mono ?_
  rintro e w2 ⟨rfl, hb2⟩
  have HB2 := hid hb2
  clear hb2 c4 c0
  have tok : True := trivial
  have HW : Hid (Below w2.heap.size w2 ((w2.alloc (.cells (row8 s.last) 84)).alloc (.cells (row8 zeros) 5))) := ((Below.refl _ w2).alloc (Nat.le_refl _) _).alloc (by simp) _
  have hr2 := range_new w2 (vals s.last) 84 (0, 0)
  have HR : Hid (Row ((w2.alloc (.cells (row8 s.last) 84)).alloc (.cells (row8 zeros) 5)) (some ⟨w2.heap.size, 0, none⟩) s.last) := by
    have := row_new w2 s.last HS.out.last.2 84 (0, 0)
    exact this.below ((Below.refl _ _).alloc (Nat.le_refl _) _)
  have HH : Hid (((w2.alloc (.cells (row8 s.last) 84)).alloc (.cells (row8 zeros) 5)).heap[w2.heap.size + 1]? = some (.cells (vals zeros).toArray 5 (0, 0))) := by
    have := heap_alloc_new (w2.alloc (.cells (row8 s.last) 84)) (.cells (row8 zeros) 5)
    show _ = _
    simpa [row8] using this
  clear hr2
  go_wp2_with (first | refine step_alloc 84 rfl rfl _ _ (run_alloc62 _) ?_ | refine step_store 84 rfl _ _ rfl _ (store62_new _ _ _ _ (by simp) bytes_zeros HS.out.last) ?_ | (have _t := tok; refine step_copy rfl _ _ rfl (w2.heap.size + 1) 0 64 64 (some ⟨w2.heap.size, 0, none⟩) 64 64 rfl rfl _ 5 HH.out s.last (by rw [HS.out.last.1]; rfl) HR.out (by rw [HS.out.last.1, vals_len]; decide) ?_; intro w4 hw4; have HW4 := hid hw4; clear tok hw4))
  go_ret2
  have hw4 := HW4.out
  rw [splice_all _ _ (by rw [vals_len, vals_len, HS.out.last.1]; rfl)] at hw4
  subst hw4
  refine ⟨_, rfl, ⟨setRow_heap _ _ _ _ 5 _ HH.out, HS.out.last.2⟩, ?_, by have := HB2.out.size; omega⟩
  exact below_setRow (HB2.out.trans (HW.out.mono HB2.out.size)) (by have := HB2.out.size; omega) _
end Go.Proofs.Yteohjfhflodklaa
