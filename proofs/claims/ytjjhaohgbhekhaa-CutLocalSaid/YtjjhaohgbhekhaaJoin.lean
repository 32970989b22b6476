/- Two rows of bytes appended one behind the other onto an empty row. Condition: together at most a million bytes. -/
import Derived.Test.YtjjhaohgbhekhaaAwake
import Derived.BigQuiet
namespace Go.Proofs.Ytjjhaohgbhekhaa
open Go.ChangeShapes Go.WideShapes Go.ChangeAt Go.RowKit
set_option maxRecDepth 4000
theorem to_drewN {b : Nat} {w w' : World} (h : Below b w w') (n : Nat) : Below b w (w'.drewN n) := ⟨h.os, h.tape, h.output, h.size, h.block⟩
theorem joined (w : World) (a c : Option Addr) (la lc : List Nat) (n m k : Nat) (ca cc : Nat) (hn : la.length = n) (hm : lc.length = m) (hk : n + m = k) (h6 : k ≤ 1000000) (ha : Row w a la) (hc : Row w c lc) :
    ∃ g1 c1 w1 g2 c2 w2, (Builtin.append_ #[22, 22] 22 #[.slice (some ⟨w.heap.size, 0, none⟩) 0 0, .slice a n ca]).run Try.prog (w.alloc (.cells #[] 5)) = .ok (.slice (some ⟨g1, 0, none⟩) n c1) w1 ∧
      (Builtin.append_ #[22, 22] 22 #[.slice (some ⟨g1, 0, none⟩) n c1, .slice c m cc]).run Try.prog w1 = .ok (.slice (some ⟨g2, 0, none⟩) k c2) w2 ∧
      (k ≤ c2 ∧ Row w2 (some ⟨g2, 0, none⟩) (la ++ lc)) ∧ Below w.heap.size w w2 := by
  have hb4 : Below w.heap.size w (w.alloc (.cells #[] 5)) := (Below.refl _ _).alloc (Nat.le_refl _) _
  obtain ⟨g5, c5, w5, hrun5, hm5, hb5⟩ := (mine_empty w).app 22 a la n ca hn (ha.below hb4) n (by omega) (by omega) hb4.size
  rw [List.nil_append] at hm5
  have hb35 := hb4.trans hb5
  obtain ⟨g6, c6, w6, hrun6, hm6, hb6⟩ := hm5.app 22 c lc m cc hm (hc.below hb35) k hk (by omega) hb35.size
  exact ⟨g5, c5, w5, g6, c6, w6, hrun5, hrun6, hm6.row, hb35.trans hb6⟩
end Go.Proofs.Ytjjhaohgbhekhaa
