/- What Write answers where there is no such slot; what is read of a disk behind a Spoil. No condition. -/
import Derived.Test.YtmfmhlhpleahpaaSupS
import Derived.Test.YtmfmhlhpleahpaaSupQ
namespace Go.Proofs.Ytmfmhlhpleahpaa
open Go.RowKit Pen
open Crc (four nx)
set_option maxRecDepth 10000 in
set_option maxHeartbeats 4000000 in
theorem writeS_no (w : World) (q : Nat) (z : Int) (hz : isSlot z = false)
    (nb bt : Int) (aj : Option Addr) (nj cj : Nat) (lj : Int) (kj : Nat) (ac : Option Addr) (nc cc : Nat) (lc : Int) (kc : Nat) (sj sc : List Int)
    (hj : IRow w aj sj) (hnj : sj.length = nj) (hmj : nj ≤ 1000) (hc : IRow w ac sc) (hnc : sc.length = nc) (hmc : nc ≤ 1000) (hkj : kj < 4294967296) (hkc : kc < 4294967296)
    (t : Sp) (ht : t = ⟨nb, bt, ⟨sj, lj, kj⟩, ⟨sc, lc, kc⟩⟩) (hok : t.Ok 96) :
    Calls Try.prog 18 #[.pointer (some ⟨q, 0, none⟩), .int .i64 z, .agg #[.int .i64 nb, .int .i64 bt, .slice aj nj cj, .int .i64 lj, .int .u32 (kj : Int), .slice ac nc cc, .int .i64 lc, .int .u32 (kc : Int)]] w
      fun e w' => e = .returned (.int .i64 1) ∧ Below w.heap.size w w' := by
  obtain ⟨w1, hw1⟩ : ∃ w1, w1 = w.alloc (.cells #[.int .i64 nb, .int .i64 bt, .slice aj nj cj, .int .i64 lj, .int .u32 (kj : Int), .slice ac nc cc, .int .i64 lc, .int .u32 (kc : Int)] 32) := ⟨_, rfl⟩
  have hb1 : Below w.heap.size w w1 := by rw [hw1]; exact (Below.refl _ _).alloc (Nat.le_refl _) _
  have hkb := bytesS_any w1 nb bt aj nj cj lj kj ac nc cc lc kc sj sc (hj.below hb1) hnj hmj (hc.below hb1) hnc hmc hkj hkc t ht hok
  have hki := isSlot_any z
  rw [hz] at hki
  have HW1 := hid hw1
  have HB1 := hid hb1
  have HKB := hid hkb
  have HKI := hid hki
  clear hw1 hb1 hkb hki hj hnj hmj hc hnc hmc hkj hkc ht hok hz
  go_enter Try.func18, Try.ntmps18
  go_wp2_with fail
  rw [← HW1.out]
  clear HW1
  refine HKB.out.mono ?_
  rintro e w2 ⟨g, cap, rfl, -, hb2⟩
  have HB2 := hid (HB1.out.trans (hb2.mono HB1.out.size))
  clear hb2
  go_wp2_with (go_at_call 35; refine (HKI.out _).mono ?_; rintro e w' ⟨rfl, rfl⟩)
  go_ret
  exact ⟨rfl, HB2.out⟩
theorem spoil_read_same (d : Dk) (i y : Nat) (b : List Nat) (hi : i < d.secs.length) : (d.spoil i y b).read i = over (d.read i) y b := by
  have e : (d.spoil i y b).secs.getD i blank = spoilt (d.secs.getD i blank) y b := by simp [Dk.spoil, hi]
  unfold Dk.read
  rw [e]
  unfold Sec.last spoilt
  cases h : (d.secs.getD i blank).waits <;> simp
theorem spoil_read_other (d : Dk) (i j y : Nat) (b : List Nat) (h : i ≠ j) : (d.spoil i y b).read j = d.read j := by
  simp only [Dk.spoil, Dk.read, List.getD_eq_getElem?_getD, List.getElem?_set, if_neg h]
theorem spoil_rest (d : Dk) (i y : Nat) (b : List Nat) : (d.spoil i y b).secs.length = d.secs.length ∧ (d.spoil i y b).dead = d.dead := ⟨by simp [Dk.spoil], rfl⟩
theorem over_one (l : List Nat) (y x : Nat) (hy : y < l.length) : over l y [x] = l.set y x := by
  unfold over
  rw [List.set_eq_take_append_cons_drop, if_pos hy]
  simp
/-- A byte of a slot that is turned. -/
theorem slot_spoil (d : Dk) (s p x : Nat) (h : ∀ i, i < 4 → (d.read (s * 4 + i)).length = 64) (hn : s * 4 + 4 ≤ d.secs.length) (hp : p < 256) : (d.spoil (s * 4 + p / 64) (p % 64) [x]).slot s = (d.slot s).set p x := by
  have hlen : (d.slot s).length = 256 := by
    rw [slot_four]
    simp only [List.length_append, h 0 (by decide), h 1 (by decide), h 2 (by decide), h 3 (by decide), List.length_nil]
  have hr : ∀ i, i < 4 → (d.spoil (s * 4 + p / 64) (p % 64) [x]).read (s * 4 + i) = if p / 64 = i then (d.read (s * 4 + i)).set (p % 64) x else d.read (s * 4 + i) := fun i hi => by
    by_cases e : p / 64 = i
    · rw [if_pos e, ← e, spoil_read_same _ _ _ _ (by omega), over_one _ _ _ (by rw [h (p / 64) (by omega)]; omega)]
    · rw [if_neg e, spoil_read_other _ _ _ _ _ (by omega)]
  have hr64 : ∀ i, i < 4 → ((d.spoil (s * 4 + p / 64) (p % 64) [x]).read (s * 4 + i)).length = 64 := fun i hi => by
    rw [hr i hi]
    split
    · rw [List.length_set, h i hi]
    · exact h i hi
  refine ext_getD ?_ (fun j hj => ?_)
  · rw [List.length_set, hlen, slot_four]
    simp only [List.length_append, hr64 0 (by decide), hr64 1 (by decide), hr64 2 (by decide), hr64 3 (by decide), List.length_nil]
  · have hl2 : ((d.spoil (s * 4 + p / 64) (p % 64) [x]).slot s).length = 256 := by
      rw [slot_four]
      simp only [List.length_append, hr64 0 (by decide), hr64 1 (by decide), hr64 2 (by decide), hr64 3 (by decide), List.length_nil]
    rw [hl2] at hj
    have g : ∀ (l : List Nat) (k : Nat), l.getD k 0 = (piece l (k / 64)).getD (k % 64) 0 := fun l k => by
      unfold piece
      rw [getD_take _ _ _ (by omega), getD_drop, show 64 * (k / 64) + k % 64 = k by omega]
    have hs : ((d.slot s).set p x).getD j 0 = if p = j then x else (d.slot s).getD j 0 := by
      simp only [List.getD_eq_getElem?_getD, List.getElem?_set]
      by_cases e : p = j
      · subst e; simp [hlen, hp]
      · simp [e]
    rw [hs, g _ j, piece_slot _ s hr64 (j / 64) (by omega), hr _ (by omega), g (d.slot s) j, piece_slot d s h (j / 64) (by omega)]
    by_cases e : p / 64 = j / 64
    · rw [if_pos e]
      have hg : ((d.read (s * 4 + j / 64)).set (p % 64) x).getD (j % 64) 0 = if p % 64 = j % 64 then x else (d.read (s * 4 + j / 64)).getD (j % 64) 0 := by
        simp only [List.getD_eq_getElem?_getD, List.getElem?_set]
        by_cases e2 : p % 64 = j % 64
        · rw [if_pos e2, if_pos e2, if_pos (by rw [h _ (by omega)]; omega)]; rfl
        · rw [if_neg e2, if_neg e2]
      rw [hg]
      by_cases e2 : p = j
      · rw [if_pos e2, if_pos (by omega)]
      · rw [if_neg e2, if_neg (by omega)]
    · rw [if_neg e, if_neg (by omega)]
theorem slot_spoil_other (d : Dk) (s r p x : Nat) (hsr : s ≠ r) (hp : p < 256) : (d.spoil (s * 4 + p / 64) (p % 64) [x]).slot r = d.slot r := by
  rw [slot_four, slot_four, spoil_read_other _ _ _ _ _ (by omega), spoil_read_other _ _ _ _ _ (by omega), spoil_read_other _ _ _ _ _ (by omega), spoil_read_other _ _ _ _ _ (by omega)]
theorem slot_get (d : Dk) (s p : Nat) (h : ∀ i, i < 4 → (d.read (s * 4 + i)).length = 64) (hp : p < 256) : (d.read (s * 4 + p / 64)).getD (p % 64) 0 = (d.slot s).getD p 0 := by
  have e := piece_slot d s h (p / 64) (by omega)
  rw [← e]
  unfold piece
  rw [getD_take _ _ _ (by omega), getD_drop, show 64 * (p / 64) + p % 64 = p by omega]
end Go.Proofs.Ytmfmhlhpleahpaa
