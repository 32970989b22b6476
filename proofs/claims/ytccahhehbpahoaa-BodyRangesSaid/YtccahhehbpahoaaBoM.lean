/- What the law's own Same answers of two bodies that are alike. Condition: at most a hundred thousand parts. -/
import Derived.Test.YtccahhehbpahoaaBoJ
import Derived.Deep.RegionHeldLaw
namespace Go.Proofs.Ytccahhehbpahoaa
open Go.ChangeShapes Go.WideShapes Go.ChangeAt Go.RowKit
set_option maxRecDepth 4000
set_option linter.unusedVariables false
attribute [local go_sem ↓] Go.wp_at_zero Go.wp_at_succ
/-- Two structs of the same cells that were made one behind the other. -/
theorem two_fresh (w : World) (cs : Array Value) (t1 t2 : TypeId) : Below w.heap.size w ((w.alloc (.cells cs t1)).alloc (.cells cs t2)).drew ∧ ∀ k v, cs[k]? = some v → ((w.alloc (.cells cs t1)).alloc (.cells cs t2)).drew.cell? ⟨w.heap.size, k, none⟩ = some v ∧ ((w.alloc (.cells cs t1)).alloc (.cells cs t2)).drew.cell? ⟨w.heap.size + 1, k, none⟩ = some v := by
  have h1 : ((w.alloc (.cells cs t1)).alloc (.cells cs t2)).drew.heap[w.heap.size]? = some (.cells cs t1 (0, 0)) := by
    show ((w.alloc (.cells cs t1)).alloc (.cells cs t2)).heap[w.heap.size]? = _
    rw [heap_alloc_old _ _ (by simp), heap_alloc_new]
  have h2 : ((w.alloc (.cells cs t1)).alloc (.cells cs t2)).drew.heap[w.heap.size + 1]? = some (.cells cs t2 (0, 0)) := by
    show ((w.alloc (.cells cs t1)).alloc (.cells cs t2)).heap[w.heap.size + 1]? = _
    have := heap_alloc_new (w.alloc (.cells cs t1)) (.cells cs t2)
    rw [show (w.alloc (.cells cs t1)).heap.size = w.heap.size + 1 by simp] at this
    exact this
  refine ⟨(((Below.refl w.heap.size w).alloc (Nat.le_refl _) _).alloc (by simp) _).drew, fun k v hk => ⟨?_, ?_⟩⟩
  · rw [cell_of_row _ _ k _ t1 (0, 0) h1]; exact hk
  · rw [cell_of_row _ _ k _ t2 (0, 0) h2]; exact hk
set_option maxHeartbeats 4000000 in
theorem same_any {w : World} (size : Int) (a1 a2 : Option Addr) (l : List Pt) (n c1 c2 : Nat) (hn : l.length = n) (h1 : PRow w a1 l) (h2 : PRow w a2 l) (hm : n ≤ 1000000) :
    Calls Try.prog 18 #[.agg #[.int .i64 size, .slice a1 n c1], .agg #[.int .i64 size, .slice a2 n c2]] w fun e w' => e = .returned (.bool true) ∧ Below w.heap.size w w' := by
  have hb1 := ((Below.refl w.heap.size w).alloc (Nat.le_refl _) (.cells #[.int .i64 size, .slice a1 n c1] 29)).alloc (by simp) (.cells #[.int .i64 size, .slice a2 n c2] 24)
  have HX : Hid (((w.alloc (.cells #[.int .i64 size, .slice a1 n c1] 29)).alloc (.cells #[.int .i64 size, .slice a2 n c2] 24)).heap[w.heap.size]? = some (.cells #[.int .i64 size, .slice a1 n c1] 29 (0, 0))) := by
    show _ = _
    rw [heap_alloc_old _ _ (by simp), heap_alloc_new]
  have HY : Hid (((w.alloc (.cells #[.int .i64 size, .slice a1 n c1] 29)).alloc (.cells #[.int .i64 size, .slice a2 n c2] 24)).heap[w.heap.size + 1]? = some (.cells #[.int .i64 size, .slice a2 n c2] 24 (0, 0))) := by
    have := heap_alloc_new (w.alloc (.cells #[.int .i64 size, .slice a1 n c1] 29)) (.cells #[.int .i64 size, .slice a2 n c2] 24)
    rw [show (w.alloc (.cells #[.int .i64 size, .slice a1 n c1] 29)).heap.size = w.heap.size + 1 by simp] at this
    exact this
  have HB1 := hid hb1
  have H1 := hid (h1.below hb1)
  have H2 := hid (h2.below hb1)
  have HN := hid hn
  clear hb1 h1 h2 hn
  go_enter Try.func18, Try.ntmps18
  have tok : True := trivial
  generalize hw1 : (w.alloc (.cells #[.int .i64 size, .slice a1 n c1] 29)).alloc (.cells #[.int .i64 size, .slice a2 n c2] 24) = w1 at HB1 HX HY H1 H2
  have hcell : ∀ W, Below w1.heap.size w1 W → (W.cell? ⟨w.heap.size, 0, none⟩ = some (.int .i64 size) ∧ W.cell? ⟨w.heap.size, 1, none⟩ = some (.slice a1 n c1) ∧ W.cell? ⟨w.heap.size + 1, 0, none⟩ = some (.int .i64 size) ∧ W.cell? ⟨w.heap.size + 1, 1, none⟩ = some (.slice a2 n c2)) := fun W hW => by
    have h := (hW.block _ (lt_of_some HX.out)).trans HX.out
    have h' := (hW.block _ (lt_of_some HY.out)).trans HY.out
    exact ⟨by rw [cell_of_row W _ 0 _ 29 (0, 0) h]; rfl, by rw [cell_of_row W _ 1 _ 29 (0, 0) h]; rfl, by rw [cell_of_row W _ 0 _ 24 (0, 0) h']; rfl, by rw [cell_of_row W _ 1 _ 24 (0, 0) h']; rfl⟩
  have HCELL := hid hcell
  obtain ⟨x0, x1, y0, y1⟩ := hcell w1 (Below.refl _ _)
  have HSZ : Hid (w.heap.size ≤ w1.heap.size) := HB1.out.size
  clear hcell
  go_wp2_with (rw [hw1])
  clear x0 x1 y0 y1
  obtain ⟨q, hq⟩ : ∃ q, w.heap.size = q := ⟨_, rfl⟩
  rw [hq] at HCELL ⊢
  clear hq hw1 HX HY
  go_loopg [5] n (fun gk v5 wr => ∃ (i : Nat), i + gk = n ∧ v5 = .int .i64 (i : Int) ∧ Hid (Below w1.heap.size w1 wr))
  case atStart => exact ⟨0, by omega, rfl, hid (Below.refl _ _)⟩
  case round =>
    obtain ⟨i, hik, rfl, HB⟩ := hrel
    by_cases hlt : i < n
    · have g : (i : Int) < (n : Int) := by omega
      obtain ⟨b1, o1, ha1, hl1, hp1⟩ := (H1.out.below HB.out).later (i := i) (by rw [HN.out]; exact hlt)
      obtain ⟨b2, o2, ha2, hl2, hp2⟩ := (H2.out.below HB.out).later (i := i) (by rw [HN.out]; exact hlt)
      obtain ⟨x, hx⟩ : ∃ x, l.getD i pt0 = x := ⟨_, rfl⟩
      rw [hx] at hp1 hp2
      obtain ⟨xo, xl, xc, xa⟩ := x
      subst ha1 ha2
      have hS : ∀ W, Below wr.heap.size wr W → (W.cell? ⟨q, 1, none⟩ = some (.slice (some ⟨b1, o1, none⟩) n c1) ∧ W.cell? ⟨q + 1, 1, none⟩ = some (.slice (some ⟨b2, o2, none⟩) n c2) ∧
          W.cell? ⟨b1, o1 + i * 4, none⟩ = some (.int .i64 xo) ∧ W.cell? ⟨b1, o1 + i * 4 + 1, none⟩ = some (.int .i64 xl) ∧ W.cell? ⟨b1, o1 + i * 4 + 2, none⟩ = some (.int .i64 xc) ∧ W.cell? ⟨b1, o1 + i * 4 + 3, none⟩ = some (.int .i64 xa) ∧
          W.cell? ⟨b2, o2 + i * 4, none⟩ = some (.int .i64 xo) ∧ W.cell? ⟨b2, o2 + i * 4 + 1, none⟩ = some (.int .i64 xl) ∧ W.cell? ⟨b2, o2 + i * 4 + 2, none⟩ = some (.int .i64 xc) ∧ W.cell? ⟨b2, o2 + i * 4 + 3, none⟩ = some (.int .i64 xa)) := fun W hW => by
        obtain ⟨z0, z1, z2, z3⟩ := HCELL.out W (HB.out.trans (hW.mono HB.out.size))
        obtain ⟨p0, p1, p2, p3⟩ := hp1 W hW
        obtain ⟨r0, r1, r2, r3⟩ := hp2 W hW
        exact ⟨z1, z3, p0, p1, p2, p3, r0, r1, r2, r3⟩
      have hs0 := hS wr.drew (Below.refl _ _).drew
      obtain ⟨z0, z1, z2, z3⟩ := HCELL.out wr HB.out
      have HS := hid hS
      have HBD := hid ((Below.refl wr.heap.size wr).drew)
      clear hx hl1 hl2 hp1 hp2 hS
      go_wp2_with fail
      clear z0 z1 z2 z3
      obtain ⟨fA, fAc⟩ := two_fresh wr #[.int .i64 xo, .int .i64 xl, .int .i64 xc, .int .i64 xa] 58 45
      obtain ⟨fA0, fA0'⟩ := fAc 0 (.int .i64 xo) rfl
      obtain ⟨fA1, fA1'⟩ := fAc 1 (.int .i64 xl) rfl
      obtain ⟨fA2, fA2'⟩ := fAc 2 (.int .i64 xc) rfl
      obtain ⟨fA3, fA3'⟩ := fAc 3 (.int .i64 xa) rfl
      have HfA := hid fA
      clear fA fAc
      obtain ⟨fB, fBc⟩ := two_fresh wr #[.int .i64 xo, .int .i64 xl, .int .i64 xc, .int .i64 xa] 45 58
      obtain ⟨fB0, fB0'⟩ := fBc 0 (.int .i64 xo) rfl
      obtain ⟨fB1, fB1'⟩ := fBc 1 (.int .i64 xl) rfl
      obtain ⟨fB2, fB2'⟩ := fBc 2 (.int .i64 xc) rfl
      obtain ⟨fB3, fB3'⟩ := fBc 3 (.int .i64 xa) rfl
      have HfB := hid fB
      clear fB fBc
      go_region_held (fun W => W.cell? ⟨q, 1, none⟩ = some (.slice (some ⟨b1, o1, none⟩) n c1) ∧ W.cell? ⟨q + 1, 1, none⟩ = some (.slice (some ⟨b2, o2, none⟩) n c2) ∧
          W.cell? ⟨b1, o1 + i * 4, none⟩ = some (.int .i64 xo) ∧ W.cell? ⟨b1, o1 + i * 4 + 1, none⟩ = some (.int .i64 xl) ∧ W.cell? ⟨b1, o1 + i * 4 + 2, none⟩ = some (.int .i64 xc) ∧ W.cell? ⟨b1, o1 + i * 4 + 3, none⟩ = some (.int .i64 xa) ∧
          W.cell? ⟨b2, o2 + i * 4, none⟩ = some (.int .i64 xo) ∧ W.cell? ⟨b2, o2 + i * 4 + 1, none⟩ = some (.int .i64 xl) ∧ W.cell? ⟨b2, o2 + i * 4 + 2, none⟩ = some (.int .i64 xc) ∧ W.cell? ⟨b2, o2 + i * 4 + 3, none⟩ = some (.int .i64 xa)) (first | assumption | exact HS.out _ (HBD.out.alloc (Nat.le_refl _) _) | exact HS.out _ ((HBD.out.alloc (Nat.le_refl _) _).alloc (by simp) _)) (fail)
      all_goals clear hs0
      all_goals
        go_wp2_with fail
        go_roundg (gk - 1)
        case measure => omega
        case rel => exact ⟨i + 1, by omega, by go_num, by first | exact hid (HB.out.trans (HfA.out.mono HB.out.size)) | exact hid (HB.out.trans (HfB.out.mono HB.out.size))⟩
    · have g : ¬ (i : Int) < (n : Int) := by omega
      obtain ⟨z0, z1, z2, z3⟩ := HCELL.out wr HB.out
      go_wp2_with fail
      go_ret
      exact ⟨rfl, HB1.out.trans (HB.out.mono HSZ.out)⟩
end Go.Proofs.Ytccahhehbpahoaa
