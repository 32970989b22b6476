import Derived.Test.YteohjfhflodklaaFrame
namespace Go.Proofs.Yteohjfhflodklaa
open Go.ChangeShapes Go.WideShapes Go.ChangeAt Go.RowKit
theorem write_free {d : Dk} (hdead : d.dead = false) (hf : d.fuse = none) (i : Nat) (hi : i < d.secs.length) (b : List Nat) (hb : b.length = 64) :
    d.write (i : Int) b = ({ d with ops := d.ops + 1, secs := d.secs.set i { d.secs.getD i blank with cached := b, waits := true } }, 0) := by
  have hh : d.has (i : Int) = true := by simp [Dk.has, hi]
  have hm : d.may = true := by simp [Dk.may, hf]
  unfold Dk.write
  rw [if_neg (by simp [hdead]), if_neg (by simp [hh, hb]), if_neg (by simp [hm])]
  simp [Dk.put, Dk.spent, hf]
theorem flush_free {d : Dk} (hdead : d.dead = false) (hf : d.fuse = none) : d.flush = ({ d with ops := d.ops + 1, secs := d.secs.map clean }, 0) := by
  have hm : d.may = true := by simp [Dk.may, hf]
  unfold Dk.flush
  rw [if_neg (by simp [hdead]), if_neg (by simp [hm])]
  simp [Dk.spent, hf]
theorem stay_one (c : Nat) : stay [c] 0 = if c % 4 = 1 then 64 else if c % 4 = 3 then c / 4 else 0 := by simp [stay, rep]
theorem strOf_app (a b : List Nat) : strOf a ++ strOf b = strOf (a ++ b) := by
  apply ByteArray.ext
  simp [strOf]
theorem and3 (c : Nat) (hc : c < 256) : bits .and .u8 (c : Int) 3 = ((c % 4 : Nat) : Int) := by
  have h := u8_and_nat c 3 hc (by decide)
  have e : ∀ y : Fin 256, y.val &&& 3 = y.val % 4 := by decide +kernel
  rw [e ⟨c, hc⟩] at h
  exact h
theorem str_take {w' : World} {g : Nat} {l : List Nat} (h : Buf w' g l) (T cap : Nat) (hT : T ≤ l.length) : ∀ W, Below w'.heap.size w' W → (convert 40 9 (.slice (some ⟨g, 0, none⟩) T cap)).run Try.prog W = .ok (.string (strOf (l.take T))) W :=
  fun W hb => str_any W _ _ T cap (by simp; omega) (row_take (h.row.below hb) T)
theorem str_drop {w' : World} {g : Nat} {l : List Nat} (h : Buf w' g l) (T n cap : Nat) (hT : T < l.length) (hn : l.length - T = n) : ∀ W, Below w'.heap.size w' W → (convert 40 9 (.slice (some ⟨g, T, none⟩) n cap)).run Try.prog W = .ok (.string (strOf (l.drop T))) W :=
  fun W hb => by
    have h1 := row_drop (h.row.below hb) T l.length (Nat.le_refl _)
    have e : fromA (some ⟨g, 0, none⟩) T l.length = some ⟨g, T, none⟩ := by
      simp only [fromA, if_neg (show ¬ l.length = T by omega), Option.map_some, Addr.add]
      split
      · next h => rw [h]
      · simp
    rw [e] at h1
    exact str_any W _ _ n cap (by simp; omega) h1
theorem str_all {w' : World} {g : Nat} {l : List Nat} (h : Buf w' g l) (n cap : Nat) (hn : l.length = n) : ∀ W, Below w'.heap.size w' W → (convert 40 9 (.slice (some ⟨g, 0, none⟩) n cap)).run Try.prog W = .ok (.string (strOf l)) W :=
  fun W hb => str_any W _ _ n cap hn (h.row.below hb)
end Go.Proofs.Yteohjfhflodklaa
