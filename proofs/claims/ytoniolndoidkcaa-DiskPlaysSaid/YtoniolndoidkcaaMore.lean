/- What the statements' walks share: disks without a fuse, one sector, and texts of rows of bytes. No condition. -/
import Derived.Test.YtoniolndoidkcaaFrame
namespace Go.Proofs.Ytoniolndoidkcaa
open Go.ChangeShapes Go.WideShapes Go.ChangeAt Go.RowKit
theorem fresh_one (w : World) : Calls Try.prog 10 #[.int .i64 1] w fun e w' => ∃ q, e = .returned (.tuple #[.pointer (some ⟨q, 0, none⟩), .int .i64 0]) ∧ ∃ p, DiskAt w' q p (fresh 1) ∧ Below w.heap.size w w' ∧ w.heap.size ≤ q ∧ w.heap.size ≤ p := new_any w 1 (by decide)
theorem write_free {d : Dk} (hdead : d.dead = false) (hf : d.fuse = none) (i : Nat) (hi : i < d.secs.length) (b : List Nat) (hb : b.length = 64) :
    d.write (i : Int) b = ({ d with ops := d.ops + 1, secs := d.secs.set i { d.secs.getD i blank with cached := b, waits := true } }, 0) := by
  have hh : d.has (i : Int) = true := by simp [Dk.has, hi]
  have hm : d.may = true := by simp [Dk.may, hf]
  unfold Dk.write
  rw [if_neg (by simp [hdead]), if_neg (by simp [hh, hb]), if_neg (by simp [hm])]
  simp [Dk.put, Dk.spent, hf]
theorem flush_free {d : Dk} (hdead : d.dead = false) (hf : d.fuse = none) : d.flush = ({ d with ops := d.ops + 1, secs := d.secs.map clean }, 0) := by
  have hm : d.may = true := by simp [Dk.may, hf]
  unfold Dk.flush
  rw [if_neg (by simp [hdead]), if_neg (by simp [hm])]
  simp [Dk.spent, hf]
def torn (a b : List Nat) : Dk := ⟨[⟨a, b, true⟩], 3, none, false⟩
theorem tear1 (a : List Nat) (ha : a.length = 64) : (fresh 1).write 0 a = (⟨[⟨zeros, a, true⟩], 1, none, false⟩, 0) := by
  have := write_free (d := fresh 1) rfl rfl 0 (by simp [fresh]) a ha
  simpa [fresh, blank] using this
theorem tear2 (a : List Nat) : (Dk.mk [⟨zeros, a, true⟩] 1 none false).flush = (⟨[⟨a, zeros, false⟩], 2, none, false⟩, 0) := by
  rw [flush_free rfl rfl]
  simp [clean, Sec.last]
theorem tear3 (a b : List Nat) (hb : b.length = 64) : (Dk.mk [⟨a, zeros, false⟩] 2 none false).write 0 b = (torn a b, 0) := by
  have := write_free (d := ⟨[⟨a, zeros, false⟩], 2, none, false⟩) rfl rfl 0 (by simp) b hb
  simpa [torn] using this
theorem tear4 (a b : List Nat) (c : Nat) : ((torn a b).crash [c]).read 0 = mix a b (stay [c] 0) := by
  simp [torn, Dk.crash, crashL, crashAt, crashed, count, Dk.read, Sec.last]
theorem stay_one (c : Nat) : stay [c] 0 = if c % 4 = 1 then 64 else if c % 4 = 3 then c / 4 else 0 := by simp [stay, rep]
theorem write0 {w : World} {q p : Nat} {d : Dk} (h : DiskAt w q p d) (hops : d.ops < 1000000000) (a : Option Addr) (b : List Nat) (hr : Row w a b) (hb : b.length = 64) (cap : Nat) :
    Calls Try.prog 14 #[.pointer (some ⟨q, 0, none⟩), .int .i64 0, .slice a 64 cap] w fun e w' => e = .returned (.int .i64 (d.write 0 b).2) ∧ DiskAt w' q p (d.write 0 b).1 ∧ Only q (some p) w w' := write_any h hops 0 a b 64 cap hr hb
theorem strOf_app (a b : List Nat) : strOf a ++ strOf b = strOf (a ++ b) := by
  apply ByteArray.ext
  simp [strOf]
theorem and3 (c : Nat) (hc : c < 256) : bits .and .u8 (c : Int) 3 = ((c % 4 : Nat) : Int) := by
  have h := u8_and_nat c 3 hc (by decide)
  have e : ∀ y : Fin 256, y.val &&& 3 = y.val % 4 := by decide +kernel
  rw [e ⟨c, hc⟩] at h
  exact h
/-- full, in whatever later world. -/
theorem full_in {w : World} {a : Option Addr} {l : List Nat} {n cap : Nat} (hr : Row w a l) (hn : l.length = n) (hm : n ≤ 1000000) (W : World) (hW : Below w.heap.size w W) :
    Calls Try.prog 13 #[.slice a n cap] W fun e w' => ∃ g, e = .returned (.slice (some ⟨g, 0, none⟩) 64 64) ∧ Below w.heap.size w w' ∧ Below W.heap.size W w' ∧ Below w'.heap.size w' w' ∧ Buf w' g (full l) := by
  refine (full_any W a l n cap (hr.below hW) hn hm).mono ?_
  rintro e w' ⟨g, rfl, h1, h2, _⟩
  exact ⟨g, rfl, hW.trans (h2.mono hW.size), h2, Below.refl _ _, h1⟩
theorem str_take {w' : World} {g : Nat} {l : List Nat} (h : Buf w' g l) (T cap : Nat) (hT : T ≤ l.length) : ∀ W, Below w'.heap.size w' W → (convert 23 9 (.slice (some ⟨g, 0, none⟩) T cap)).run Try.prog W = .ok (.string (strOf (l.take T))) W :=
  fun W hb => str_any W _ _ T cap (by simp; omega) (row_take (h.row.below hb) T)
theorem str_drop {w' : World} {g : Nat} {l : List Nat} (h : Buf w' g l) (T n cap : Nat) (hT : T < l.length) (hn : l.length - T = n) : ∀ W, Below w'.heap.size w' W → (convert 23 9 (.slice (some ⟨g, T, none⟩) n cap)).run Try.prog W = .ok (.string (strOf (l.drop T))) W :=
  fun W hb => by
    have h1 := row_drop (h.row.below hb) T l.length (Nat.le_refl _)
    have e : fromA (some ⟨g, 0, none⟩) T l.length = some ⟨g, T, none⟩ := by
      simp only [fromA, if_neg (show ¬ l.length = T by omega), Option.map_some, Addr.add]
      split
      · next h => rw [h]
      · simp
    rw [e] at h1
    exact str_any W _ _ n cap (by simp; omega) h1
theorem str_all {w' : World} {g : Nat} {l : List Nat} (h : Buf w' g l) (n cap : Nat) (hn : l.length = n) : ∀ W, Below w'.heap.size w' W → (convert 23 9 (.slice (some ⟨g, 0, none⟩) n cap)).run Try.prog W = .ok (.string (strOf l)) W :=
  fun W hb => str_any W _ _ n cap hn (h.row.below hb)
end Go.Proofs.Ytoniolndoidkcaa
