/- What Set and Get of a store do. Condition: numbers below nine million million million. -/
import Derived.Test.YtccahhehbpahoaaCkL
namespace Go.Proofs.Ytccahhehbpahoaa
open Go.ChangeShapes Go.WideShapes Go.ChangeAt Go.RowKit
open Go.Maps (keyOf_int_mk)
set_option maxRecDepth 4000
set_option linter.unusedVariables false
attribute [local go_sem ↓] Go.wp_at_zero Go.wp_at_succ
/-- What is handed out: a row of the call's own, or nil. -/
def Got (w w' : World) (o : Option (List Nat)) (v : Value) : Prop := match o with
  | none => v = .slice none 0 0
  | some b => ∃ g cap, v = .slice (some ⟨g, 0, none⟩) b.length cap ∧ w'.ownsRow w.heap.size 5 1 v b.length (vals b)
set_option maxHeartbeats 400000 in
theorem get_any {base : Nat} {w : World} {q n : Nat} {s : St} (h : CkAt base w q n s) (z : Int) (hw : (Lit.int .i64 z).wf = true) :
    Calls Try.prog 42 #[.pointer (some ⟨q, 0, none⟩), .int .i64 z] w fun e w' => ∃ v, e = .returned (.tuple #[v, .bool (byId s.ps z).isSome]) ∧ Got w w' (byId s.ps z) v ∧ Below w.heap.size w w' := by
  obtain ⟨P, N, c0, c1, c2, cf, hmp, hq⟩ := h.cells
  obtain ⟨v, hv1, hv2, hlk⟩ := hmp.piece z hw
  have hlk0 := (hlk _ (Below.refl _ _)).1
  cases hi : byId s.ps z with
  | none =>
    rw [hi] at hlk0
    obtain rfl := hv1 hi
    simp only [Option.isSome_none] at hlk0
    clear hi hlk hv1 hv2 hmp hq c1 c2 cf h
    go_enter Try.func42, Try.ntmps42
    go_wp2_with fail
    refine bclone_none.mono ?_
    rintro e w1 ⟨rfl, rfl⟩
    go_wp2_with fail
    go_ret2
    exact ⟨_, rfl, rfl, Below.refl _ _⟩
  | some b =>
    obtain ⟨g, cap, rfl, ho⟩ := hv2 b hi
    obtain ⟨k, rfl, hmem⟩ := byId_some hi
    have hpos := h.ok.pos _ hmem
    have hrow := (row_of_owns' rfl ho hpos.2.2.2.2).2
    have kc := bclone_some (w := w) ⟨g, 0, none⟩ b b.length cap rfl hrow (by intro e; rw [e] at hpos; simp at hpos) (by have : b.length ≤ 64 := hpos.2.2.2.1; omega)
    rw [hi] at hlk0
    simp only [Option.isSome_some] at hlk0
    have HK := hid kc
    clear hi hlk hv1 hv2 hmp hq c1 c2 cf h ho hrow kc hmem
    go_enter Try.func42, Try.ntmps42
    go_wp2_with fail
    refine HK.out.mono ?_
    rintro e w1 ⟨g1, c1, rfl, ho1, hb1⟩
    have HO := hid ho1
    have HB := hid hb1
    clear ho1 hb1
    go_wp2_with fail
    go_ret2
    exact ⟨_, rfl, ⟨g1, c1, rfl, HO.out⟩, HB.out⟩
end Go.Proofs.Ytccahhehbpahoaa
