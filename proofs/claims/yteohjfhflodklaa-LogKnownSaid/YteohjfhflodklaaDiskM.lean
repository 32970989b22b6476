import Derived.Test.YteohjfhflodklaaDiskF
namespace Go.Proofs.Yteohjfhflodklaa
open Go.RowKit
theorem row1 (w : World) (b : Nat) (hb : b < 256) : Row (w.alloc (.cells #[.int .u8 (b : Int)] 5)) (some ⟨w.heap.size, 0, none⟩) [b] := row_new w [b] (by simpa using hb) 5 (0, 0)
theorem below_one (w : World) (o : Obj) : Below w.heap.size w (w.alloc o) := (Below.refl _ w).alloc (Nat.le_refl _) o
theorem read_len {w : World} {q p i : Nat} {d : Dk} (h : DiskAt w q p d) (hi : i < d.secs.length) : (d.read i).length = 64 := (h.ok.1.get i hi).last.1
theorem Only.low {q p : Nat} {w w' : World} {base : Nat} (h : Only q (some p) w w') (hq : base ≤ q) (hp : base ≤ p) (hb : base ≤ w.heap.size) : Below base w w' :=
  h.below hq (fun k e => by simp at e; omega) hb
end Go.Proofs.Yteohjfhflodklaa
