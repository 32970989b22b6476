/- Slots on a disk, as plain mathematics: what is laid into one is there, and the other stays. No condition. -/
import Derived.Test.YtmfmhlhpleahpaaSupJ
namespace Go.Proofs.Ytmfmhlhpleahpaa
open Go.RowKit Pen
open Crc (four nx)
theorem lay_same (d : Dk) (i : Nat) (b : List Nat) (hi : i < d.secs.length) : (d.lay i b).read i = b := by
  simp [Dk.lay, Dk.read, hi, Sec.last]
theorem lay_other (d : Dk) (i j : Nat) (b : List Nat) (h : i ≠ j) : (d.lay i b).read j = d.read j := by
  simp only [Dk.lay, Dk.read, List.getD_eq_getElem?_getD, List.getElem?_set, if_neg h]
theorem lay_len (d : Dk) (i : Nat) (b : List Nat) : (d.lay i b).secs.length = d.secs.length := by simp [Dk.lay]
def piece (B : List Nat) (i : Nat) : List Nat := (B.drop (64 * i)).take 64
theorem layFrom_four (s : Nat) (B : List Nat) (d : Dk) : layFrom s B 4 d = (((d.lay (s * 4 + 0) (piece B 0)).lay (s * 4 + 1) (piece B 1)).lay (s * 4 + 2) (piece B 2)).lay (s * 4 + 3) (piece B 3) := rfl
theorem slot_four (d : Dk) (s : Nat) : d.slot s = d.read (s * 4 + 0) ++ (d.read (s * 4 + 1) ++ (d.read (s * 4 + 2) ++ (d.read (s * 4 + 3) ++ []))) := rfl
theorem pieces (B : List Nat) (h : B.length = 256) : piece B 0 ++ (piece B 1 ++ (piece B 2 ++ (piece B 3 ++ []))) = B := by
  have e : ∀ k, piece B k ++ B.drop (64 * (k + 1)) = B.drop (64 * k) := fun k => by
    rw [piece, show 64 * (k + 1) = 64 * k + 64 by omega, ← List.drop_drop, List.take_append_drop]
  have e3 : piece B 3 ++ [] = B.drop (64 * 3) := by
    rw [← e 3, List.drop_eq_nil_of_le (by omega)]
  rw [e3, e 2, e 1, e 0]
  rfl
theorem piece_len {B : List Nat} (h : B.length = 256) (i : Nat) (hi : i < 4) : (piece B i).length = 64 := by simp [piece]; omega
theorem layFrom_read_in (s : Nat) (B : List Nat) (d : Dk) (hn : s * 4 + 4 ≤ d.secs.length) (i : Nat) (hi : i < 4) : (layFrom s B 4 d).read (s * 4 + i) = piece B i := by
  rw [layFrom_four]
  rcases (by omega : i = 0 ∨ i = 1 ∨ i = 2 ∨ i = 3) with rfl | rfl | rfl | rfl
  · rw [lay_other _ _ _ _ (by omega), lay_other _ _ _ _ (by omega), lay_other _ _ _ _ (by omega), lay_same _ _ _ (by omega)]
  · rw [lay_other _ _ _ _ (by omega), lay_other _ _ _ _ (by omega), lay_same _ _ _ (by simp only [lay_len]; omega)]
  · rw [lay_other _ _ _ _ (by omega), lay_same _ _ _ (by simp only [lay_len]; omega)]
  · rw [lay_same _ _ _ (by simp only [lay_len]; omega)]
theorem layFrom_read_out (s : Nat) (B : List Nat) (d : Dk) (j : Nat) (hj : j < s * 4 ∨ s * 4 + 4 ≤ j) : (layFrom s B 4 d).read j = d.read j := by
  rw [layFrom_four, lay_other _ _ _ _ (by omega), lay_other _ _ _ _ (by omega), lay_other _ _ _ _ (by omega), lay_other _ _ _ _ (by omega)]
theorem slot_same (s : Nat) (B : List Nat) (d : Dk) (hn : s * 4 + 4 ≤ d.secs.length) (hB : B.length = 256) : (layFrom s B 4 d).slot s = B := by
  rw [slot_four, layFrom_read_in s B d hn 0 (by omega), layFrom_read_in s B d hn 1 (by omega), layFrom_read_in s B d hn 2 (by omega), layFrom_read_in s B d hn 3 (by omega), pieces B hB]
theorem slot_other (s r : Nat) (B : List Nat) (d : Dk) (h : s ≠ r) : (layFrom s B 4 d).slot r = d.slot r := by
  rw [slot_four, slot_four, layFrom_read_out s B d _ (by omega), layFrom_read_out s B d _ (by omega), layFrom_read_out s B d _ (by omega), layFrom_read_out s B d _ (by omega)]
theorem layFrom_len (s : Nat) (B : List Nat) (d : Dk) : (layFrom s B 4 d).secs.length = d.secs.length := by rw [layFrom_four]; simp only [lay_len]
theorem layFrom_rest (s : Nat) (B : List Nat) (d : Dk) : (layFrom s B 4 d).dead = d.dead ∧ (layFrom s B 4 d).fuse = d.fuse ∧ (layFrom s B 4 d).ops = d.ops + 4 := ⟨rfl, rfl, rfl⟩
theorem fresh_rest (n : Nat) : (fresh n).secs.length = n ∧ (fresh n).dead = false ∧ (fresh n).fuse = none ∧ (fresh n).ops = 0 := ⟨by simp [fresh], rfl, rfl, rfl⟩
end Go.Proofs.Ytmfmhlhpleahpaa
