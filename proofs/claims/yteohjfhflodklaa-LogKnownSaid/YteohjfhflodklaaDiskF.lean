/- What a disk's Spoil does. Condition: at least one byte, at most a million; the bytes do not lie in the disk itself. -/
import Derived.Test.YteohjfhflodklaaDiskE
namespace Go.Proofs.Yteohjfhflodklaa
open Go.RowKit
set_option maxRecDepth 4000
/-- The row does not lie in block p. -/
def Apart (a : Option Addr) (p : Nat) : Prop := ∀ x, a = some x → x.block ≠ p
theorem Row.apart {w w' : World} {a : Option Addr} {l : List Nat} (h : Row w a l) {q p : Nat} (h1 : Apart a q) (h2 : Apart a p) (ho : Only q (some p) w w') : Row w' a l := by
  refine ⟨h.1, ?_⟩
  rcases h.2 with h3 | ⟨b, off, ha, hlt, hc⟩
  · exact .inl h3
  · refine .inr ⟨b, off, ha, Nat.lt_of_lt_of_le hlt ho.size, fun i hi => ?_⟩
    have := ho.block b hlt (h1 _ ha) (fun e => h2 _ ha (by simpa using e))
    rw [← hc i hi]
    simp only [World.cell?, this]
theorem Row.apart_q {w : World} {q p : Nat} {d : Dk} {a : Option Addr} {l : List Nat} (h : Row w a l) (hd : DiskAt w q p d) (hl : l ≠ []) : Apart a q := by
  obtain ⟨b, off, rfl, hc⟩ := h.cell hl
  intro x hx
  simp at hx
  subst hx
  intro e
  change b = q at e
  subst e
  obtain ⟨z, h1, _⟩ := hd
  have h3 := hc 0 (List.length_pos_iff.2 hl)
  rw [cell_of_row w b _ _ 66 (0, 0) h1] at h3
  rcases off with _ | _ | _ | _ | _ | off <;> simp at h3
def spoilt (s : Sec) (y : Nat) (b : List Nat) : Sec := ⟨over s.safe y b, if s.waits then over s.cached y b else s.cached, s.waits⟩
theorem spoilt_ok {s : Sec} (h : s.ok) (y : Nat) {b : List Nat} (hb : ∀ x ∈ b, x < 256) (hl : y + b.length ≤ 64) : (spoilt s y b).ok := by
  refine ⟨bytes_over h.1 y hb hl, ?_⟩
  show Bytes (if s.waits then over s.cached y b else s.cached)
  split
  · exact bytes_over h.2 y hb hl
  · exact h.2
def Dk.spoil (d : Dk) (i y : Nat) (b : List Nat) : Dk := { d with secs := d.secs.set i (spoilt (d.secs.getD i blank) y b) }
def soilA (s : Sec) (y : Nat) (b : List Nat) : Sec := ⟨over s.safe y b, s.cached, s.waits⟩
def soilB (s : Sec) (y : Nat) (b : List Nat) : Sec := ⟨s.safe, over s.cached y b, s.waits⟩
theorem soil_no {s : Sec} (h : s.waits = false) (y : Nat) (b : List Nat) : spoilt s y b = soilA s y b := by simp [spoilt, soilA, h]
theorem soil_yes {s : Sec} (h : s.waits = true) (y : Nat) (b : List Nat) : spoilt s y b = soilB (soilA s y b) y b := by simp [spoilt, soilA, soilB, h]
theorem soilA_ok {s : Sec} (h : s.ok) (y : Nat) {b : List Nat} (hb : ∀ x ∈ b, x < 256) (hl : y + b.length ≤ 64) : (soilA s y b).ok := ⟨bytes_over h.1 y hb hl, h.2⟩
theorem soilB_ok {s : Sec} (h : s.ok) (y : Nat) {b : List Nat} (hb : ∀ x ∈ b, x < 256) (hl : y + b.length ≤ 64) : (soilB s y b).ok := ⟨h.1, bytes_over h.2 y hb hl⟩
def Dk.turn (d : Dk) (i : Nat) (s : Sec) : Dk := { d with secs := d.secs.set i s }
theorem turn_secs (d : Dk) (i : Nat) (s : Sec) : (d.turn i s).secs = d.secs.set i s := rfl
theorem turn_len (d : Dk) (i : Nat) (s : Sec) : (d.turn i s).secs.length = d.secs.length := by simp [turn_secs]
theorem turn_get (d : Dk) (i : Nat) (s : Sec) (hi : i < d.secs.length) : (d.turn i s).secs.getD i blank = s := by
  rw [turn_secs, List.getD_eq_getElem?_getD, List.getElem?_set_self hi]
  rfl
theorem turn_turn (d : Dk) (i : Nat) (s t : Sec) : (d.turn i s).turn i t = d.turn i t := by simp [Dk.turn]
/-- Bytes laid over what is safe. -/
theorem spoil_safe {w : World} {q p i y : Nat} {d : Dk} (h : DiskAt w q p d) (hi : i < d.secs.length) {b : List Nat} (hb : ∀ x ∈ b, x < 256) (hl : y + b.length ≤ 64) :
    ∃ w1, w1 = w.setRow p (splice (secsCells d.secs) (i * 129 + y) (vals b)).toArray ∧ DiskAt w1 q p (d.turn i (soilA (d.secs.getD i blank) y b)) ∧ Only q (some p) w w1 := by
  have hs := h.ok.1.get i hi
  have e := secs_splice h.ok.1 i y (vals b) (soilA (d.secs.getD i blank) y b) hi (by rw [vals_len]; omega) (sec_over_safe _ y b hs hl)
  rw [e]
  exact ⟨_, rfl, h.setRow _ (h.ok.1.set i (soilA_ok hs y hb hl)) (by simp), only_setRow _ _ _ _⟩
theorem spoil_cached {w : World} {q p i y : Nat} {d : Dk} (h : DiskAt w q p d) (hi : i < d.secs.length) {b : List Nat} (hb : ∀ x ∈ b, x < 256) (hl : y + b.length ≤ 64) :
    ∃ w1, w1 = w.setRow p (splice (secsCells d.secs) (i * 129 + 64 + y) (vals b)).toArray ∧ DiskAt w1 q p (d.turn i (soilB (d.secs.getD i blank) y b)) ∧ Only q (some p) w w1 := by
  have hs := h.ok.1.get i hi
  have e := secs_splice h.ok.1 i (64 + y) (vals b) (soilB (d.secs.getD i blank) y b) hi (by rw [vals_len]; omega) (sec_over_cached _ y b hs hl)
  rw [← Nat.add_assoc] at e
  rw [e]
  exact ⟨_, rfl, h.setRow _ (h.ok.1.set i (soilB_ok hs y hb hl)) (by simp), only_setRow _ _ _ _⟩
theorem spoil_turn (d : Dk) (i y : Nat) (b : List Nat) : d.spoil i y b = d.turn i (spoilt (d.secs.getD i blank) y b) := rfl
set_option maxHeartbeats 2000000 in
theorem spoil_ok {w : World} {q p i y : Nat} {d : Dk} (h : DiskAt w q p d) (hi : i < d.secs.length) (a : Option Addr) (b : List Nat) (n cap : Nat) (hr : Row w a b) (hn : b.length = n) (hne : b ≠ []) (hap : Apart a p) (hy : y + n ≤ 64) :
    Calls Try.prog 24 #[.pointer (some ⟨q, 0, none⟩), .int .i64 (i : Int), .int .i64 (y : Int), .slice a n cap] w fun e w' => e = .returned (.bool true) ∧ DiskAt w' q p (d.spoil i y b) ∧ Only q (some p) w w' := by
  have HD := hid h
  have HR := hid hr
  have hlen := h.ok.2
  have hpos : 0 < n := by rw [← hn]; exact List.length_pos_iff.2 hne
  have hhas : d.has (i : Int) = true := by simp [Dk.has, hi]
  have HS := hid (h.ok.1.get i hi)
  obtain ⟨w1, hw1, hd1, ho1⟩ := spoil_safe h hi hr.1 (y := y) (by omega)
  have hi1 : i < (d.turn i (soilA (d.secs.getD i blank) y b)).secs.length := by rw [turn_len]; exact hi
  obtain ⟨w2, hw2, hd2, ho2⟩ := spoil_cached hd1 hi1 hr.1 (y := y) (by omega)
  have hr1 := hr.apart (hr.apart_q h hne) hap ho1
  have hwt : w1.cell? ⟨p, i * 129 + 128, none⟩ = some (.bool (d.secs.getD i blank).waits) := by
    have := hd1.range i hi1 128
    rw [turn_get _ _ _ hi] at this
    exact this _ (sec_get_waits _ (soilA_ok HS.out y hr.1 (by omega)))
  rw [turn_get _ _ _ hi, turn_turn] at hd2
  have HE1 : Hid ((d.secs.getD i blank).waits = false → DiskAt w1 q p (d.spoil i y b)) := by
    show _ → _
    intro e
    rw [spoil_turn, soil_no e]
    exact hd1
  have HE2 : Hid ((d.secs.getD i blank).waits = true → DiskAt w2 q p (d.spoil i y b)) := by
    show _ → _
    intro e
    rw [spoil_turn, soil_yes e]
    exact hd2
  have HW1 := hid hw1
  have HW2 := hid hw2
  have HO1 := hid ho1
  have HO2 := hid (ho1.tr ho2)
  have HR1 := hid hr1
  have hrow := hid h.row
  have hrow1 := hid hd1.row
  have HL : Hid (i * 129 + y + b.length ≤ (secsCells d.secs).length) := by show _ ≤ _; rw [secsCells_len h.ok.1]; omega
  have HL1 : Hid (i * 129 + 64 + y + b.length ≤ (secsCells (d.turn i (soilA (d.secs.getD i blank) y b)).secs).length) := by show _ ≤ _; rw [secsCells_len hd1.ok.1, turn_len]; omega
  obtain ⟨z, h1, h2, h3, h4, h5⟩ := h
  obtain ⟨c0, c1, c2, c3, c4, cf⟩ := DiskAt.cells h1
  have hc01 : w1.cell? ⟨q, 0, none⟩ = w1.cell? ⟨q, 0, none⟩ := rfl
  have hy0 : (0 : Int) ≤ (y : Int) := by omega
  have hy1 : (y : Int) ≤ 64 - (n : Int) := by omega
  have hy2 : (y : Int) ≤ 64 := by omega
  have hy3 : y < 64 := by omega
  have hy4 : ¬ (64 = y) := by omega
  have HN := hid hn
  have HMin : Hid (b.length = Nat.min n (64 - y)) := by
    have : n ≤ 64 - y := by omega
    show _ = _
    rw [hn]
    exact (Nat.min_eq_left this).symm
  clear h1 h2 h3 h4 h5 c1 c2 c3 c4 cf hr hw1 hw2 ho1 ho2 hd1 hd2 hr1 hi1 hn hc01
  generalize hWT : (d.secs.getD i blank).waits = wt at *
  clear hWT
  go_enter Try.func24, Try.ntmps24
  go_wp2_with fail
  refine (has_any HD.out i).mono ?_
  rintro e w0 ⟨rfl, rfl⟩
  rw [hhas]
  generalize hNN : d.secs.length = N at *
  clear hNN
  have tok : True := trivial
  cases wt
  · go_wp2_with (have _t := tok; refine step_copy rfl _ _ rfl p (i * 129 + y) (64 - y) (64 - y) a n cap rfl rfl _ 86 hrow.out b HMin.out HR.out HL.out ?_; intro w4 hw4; obtain rfl := hw4.trans HW1.out.symm; clear tok hw4)
    go_ret
    exact ⟨rfl, HE1.out (by simp), HO1.out⟩
  · have tok2 : True := trivial
    go_wp2_with (first | (have _t := tok; refine step_copy rfl _ _ rfl p (i * 129 + y) (64 - y) (64 - y) a n cap rfl rfl _ 86 hrow.out b HMin.out HR.out HL.out ?_; intro w4 hw4; obtain rfl := hw4.trans HW1.out.symm; clear tok hw4) | (have _t := tok2; refine step_copy rfl _ _ rfl p (i * 129 + 64 + y) (64 - y) (64 - y) a n cap rfl rfl _ 86 hrow1.out b HMin.out HR1.out HL1.out ?_; intro w4 hw4; obtain rfl := hw4.trans HW2.out.symm; clear tok2 hw4))
    go_ret
    exact ⟨rfl, HE2.out (by simp), HO2.out⟩
/-- Do the bytes lie in one sector? -/
def Dk.lies (d : Dk) (z y : Int) (n : Nat) : Bool := d.has z && (decide (0 ≤ y) && decide (y ≤ 64 - (n : Int)))
set_option maxHeartbeats 2000000 in
theorem spoil_no {w : World} {q p : Nat} {d : Dk} (h : DiskAt w q p d) (z y : Int) (a : Option Addr) (n cap : Nat) (hm : n ≤ 1000000) (hl : d.lies z y n = false) :
    Calls Try.prog 24 #[.pointer (some ⟨q, 0, none⟩), .int .i64 z, .int .i64 y, .slice a n cap] w fun e w' => e = .returned (.bool false) ∧ w' = w := by
  have HD := hid h
  clear h
  unfold Dk.lies at hl
  go_enter Try.func24, Try.ntmps24
  go_wp2_with fail
  refine (has_any HD.out z).mono ?_
  rintro e w0 ⟨rfl, rfl⟩
  cases hh : d.has z
  · clear hl
    go_wp2_with fail
    go_ret
    exact ⟨rfl, rfl⟩
  · rw [hh] at hl
    clear hh
    by_cases h0 : 0 ≤ y
    · have h1 : ¬ y ≤ 64 - (n : Int) := by simpa [h0] using hl
      have h2 : 64 - (n : Int) < y := by omega
      have h3 : ¬ y < 0 := by omega
      clear hl h1
      go_wp2_with fail
      go_ret
      exact ⟨rfl, rfl⟩
    · have h3 : y < 0 := by omega
      clear hl h0
      go_wp2_with fail
      go_ret
      exact ⟨rfl, rfl⟩
def Dk.spoil? (d : Dk) (z y : Int) (b : List Nat) : Dk := if d.lies z y b.length then d.spoil z.toNat y.toNat b else d
theorem spoil_any {w : World} {q p : Nat} {d : Dk} (h : DiskAt w q p d) (z y : Int) (a : Option Addr) (b : List Nat) (n cap : Nat) (hr : Row w a b) (hn : b.length = n) (hne : b ≠ []) (hap : Apart a p) (hm : n ≤ 1000000) :
    Calls Try.prog 24 #[.pointer (some ⟨q, 0, none⟩), .int .i64 z, .int .i64 y, .slice a n cap] w fun e w' => e = .returned (.bool (d.lies z y n)) ∧ DiskAt w' q p (d.spoil? z y b) ∧ Only q (some p) w w' := by
  subst hn
  unfold Dk.spoil?
  cases hl : d.lies z y b.length
  · refine (spoil_no h z y a b.length cap hm hl).mono ?_
    rintro e w' ⟨rfl, rfl⟩
    exact ⟨rfl, h, Only.refl _ _ _⟩
  · simp only [Dk.lies, Dk.has, Bool.and_eq_true, decide_eq_true_eq] at hl
    obtain ⟨⟨h1, h2⟩, h3, h4⟩ := hl
    obtain ⟨i, rfl⟩ : ∃ i : Nat, z = (i : Int) := ⟨z.toNat, by omega⟩
    obtain ⟨j, rfl⟩ : ∃ j : Nat, y = (j : Int) := ⟨y.toNat, by omega⟩
    exact spoil_ok h (by omega) a b b.length cap hr rfl hne hap (by omega)
end Go.Proofs.Yteohjfhflodklaa
