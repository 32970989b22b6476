/- What the small functions of a store answer: may, New, Next, bytes.Clone; the look-ups in both maps. No condition. -/
import Derived.Test.YtccahhehbpahoaaCk
namespace Go.Proofs.Ytccahhehbpahoaa
open Go.ChangeShapes Go.WideShapes Go.ChangeAt Go.RowKit
open Go.Maps (keyOf_int_mk)
open Crc (nx nx_lt)
set_option maxRecDepth 4000
set_option linter.unusedVariables false
theorem may_any {w : World} (a : Option Addr) (n cap : Nat) :
    Calls Try.prog 38 #[.slice a n cap] w fun e w' => e = .returned (.bool (decide (1 ≤ n ∧ n ≤ 64))) ∧ w' = w := by
  by_cases h1 : 1 ≤ n
  · by_cases h2 : n ≤ 64
    · have g1 : (1 : Int) ≤ (n : Int) := by omega
      have g2 : (n : Int) ≤ 64 := by omega
      have e : decide (1 ≤ n ∧ n ≤ 64) = true := by simp [h1, h2]
      rw [e]
      go_enter Try.func38, Try.ntmps38
      go_wp2_with fail
      go_ret
      exact ⟨rfl, rfl⟩
    · have g1 : (1 : Int) ≤ (n : Int) := by omega
      have g2 : ¬ (n : Int) ≤ 64 := by omega
      have e : decide (1 ≤ n ∧ n ≤ 64) = false := by simp [h2]
      rw [e]
      go_enter Try.func38, Try.ntmps38
      go_wp2_with fail
      go_ret
      exact ⟨rfl, rfl⟩
  · have g1 : ¬ (1 : Int) ≤ (n : Int) := by omega
    have e : decide (1 ≤ n ∧ n ≤ 64) = false := by simp; omega
    rw [e]
    go_enter Try.func38, Try.ntmps38
    go_wp2_with fail
    go_ret
    exact ⟨rfl, rfl⟩
theorem new_any {w : World} : Calls Try.prog 21 #[] w fun e w' => e = .returned (.pointer (some ⟨w.heap.size, 0, none⟩)) ∧ w' = w.alloc (.cells #[.map none, .map none, .int .i64 0] 81) := by
  go_enter Try.func21, Try.ntmps21
  go_wp2
  go_ret
  exact ⟨rfl, rfl⟩
theorem next_any {base : Nat} {w : World} {q n : Nat} {s : St} (h : CkAt base w q n s) (hl : s.last < 9000000000000000000) :
    Calls Try.prog 40 #[.pointer (some ⟨q, 0, none⟩)] w fun e w' => e = .returned (.int .i64 ((s.last + 1 : Nat) : Int)) ∧ w' = w := by
  obtain ⟨P, N, c0, c1, c2, cf, hm, hq⟩ := h.cells
  clear hm hq
  go_enter Try.func40, Try.ntmps40
  go_wp2
  go_ret
  exact ⟨by simp, rfl⟩
set_option maxHeartbeats 1000000 in
theorem bclone_some {w : World} (ad : Addr) (l : List Nat) (n cap : Nat) (hn : l.length = n) (hr : Row w (some ad) l) (hne : l ≠ []) (hl : l.length ≤ 900000000) :
    Calls Try.prog 49 #[.slice (some ad) n cap] w fun e w' => ∃ g cap', e = .returned (.slice (some ⟨g, 0, none⟩) n cap') ∧ w'.ownsRow w.heap.size 5 1 (.slice (some ⟨g, 0, none⟩) n cap') n (vals l) ∧ Below w.heap.size w w' := by
  have HN : Hid (l.length = n) := hn
  have HR : Hid (Row (w.alloc (.cells #[] 5)) (some ad) l) := hr.below ((Below.refl _ w).alloc (Nat.le_refl _) _)
  have HOW : Hid ((w.alloc (.cells #[] 5)).ownsRow w.heap.size 5 1 (.slice (some ⟨w.heap.size, 0, none⟩) 0 0) ([] : List Nat).length (vals [])) := owns_empty w
  have HS : Hid (([] : List Nat).length + l.length ≤ 1000000000) := by show _ ≤ _; simp; omega
  have HB : Hid (w.heap.size ≤ (w.alloc (.cells #[] 5)).heap.size) := by show _ ≤ _; simp
  have hlt := hr.1
  have heq := fun w => eq_nil_some w ad n cap
  clear hn hr
  go_enter Try.func49, Try.ntmps49
  have tok : True := trivial
  go_wp2_with (at_builtin; have _t := tok; refine wpList_append_row _ rfl _ _ rfl w.heap.size (.slice (some ⟨w.heap.size, 0, none⟩) 0 0) [] rfl HOW.out _ l n cap rfl HN.out HR.out hne HS.out HB.out ?_; intro g m cap' w1 hm hown1 hg1 hat; rw [List.nil_append] at hm hown1; have HX := hid hown1; have HG := hid hg1; have HM := hid hm; clear tok hm hown1 hg1 hat)
  go_ret
  have e1 := HM.out
  rw [HN.out] at e1
  subst e1
  have hb := ((Below.refl w.heap.size w).alloc (Nat.le_refl _) (.cells #[] 5)).grown HG.out HB.out (fun k hk => by simp [Value.ownBlock] at hk; omega)
  exact ⟨g, cap', rfl, HX.out, hb⟩
theorem bclone_none {w : World} : Calls Try.prog 49 #[.slice none 0 0] w fun e w' => e = .returned (.slice none 0 0) ∧ w' = w := by
  have heq := fun w => eq_nil_none w
  go_enter Try.func49, Try.ntmps49
  go_wp2_with fail
  go_ret
  exact ⟨rfl, rfl⟩
/-- What lies under a number. -/
theorem Maps2.piece {base : Nat} {w : World} {P N : Option Nat} {n : Nat} {ps : Ps} (h : Maps2 base w P N n ps) (a : Int) (hw : (Lit.int .i64 a).wf = true) :
    ∃ v, (byId ps a = none → v = .slice none 0 0) ∧ (∀ b : List Nat, byId ps a = some b → PieceAt base w b v) ∧ ∀ W, Below w.heap.size w W →
      (Instr.lookup 78 (.map P) (.int .i64 a) true).run Try.prog W = .ok (.tuple #[v, .bool (byId ps a).isSome]) W ∧ (Instr.lookup 78 (.map P) (.int .i64 a) false).run Try.prog W = .ok v W := by
  rcases h with ⟨rfl, rfl, rfl⟩ | ⟨bp, bn, f, g, rfl, rfl, h3, h4, h5, h6, h7, h8, h9⟩
  · refine ⟨.slice none 0 0, fun _ => rfl, fun b hb => by simp [byId] at hb, fun W hW => ?_⟩
    have hkey := keyOf_int_mk (P := Try.prog) Try.underlying3 hw
    exact ⟨Maps.look_nil true law3 Try.underlying78 (zero27 W) hkey, Maps.look_nil false law3 Try.underlying78 (zero27 W) hkey⟩
  · have hL : ∀ W, Below w.heap.size w W → _ := fun W hW => (h6.keep (hW.block bp h6.lt)).look Try.underlying3 Try.underlying78 zero27 a hw
    cases hb : byId ps a with
    | none =>
      have hf := (h8 a).1 hb
      rw [hf] at hL
      exact ⟨.slice none 0 0, fun _ => rfl, by simp, hL⟩
    | some b =>
      obtain ⟨v, hv, hp⟩ := (h8 a).2 b hb
      rw [hv] at hL
      refine ⟨v, by simp, ?_, hL⟩
      intro b' hb'
      cases hb'
      exact hp
/-- What lies under a sum. -/
theorem Maps2.num {base : Nat} {w : World} {P N : Option Nat} {n : Nat} {ps : Ps} (h : Maps2 base w P N n ps) (c : Nat) (hw : (Lit.int .u32 (c : Int)).wf = true) :
    ∃ v, w.ownsRow base 3 1 v (those ps (c : Int)).length (ivals (those ps (c : Int))) ∧ ∀ W, Below w.heap.size w W → (Instr.lookup 79 (.map N) (.int .u32 (c : Int)) false).run Try.prog W = .ok v W := by
  rcases h with ⟨rfl, rfl, rfl⟩ | ⟨bp, bn, f, g, rfl, rfl, h3, h4, h5, h6, h7, h8, h9⟩
  · refine ⟨.slice none 0 0, World.ownsRow_nil _ _ 3 1, fun W hW => ?_⟩
    have hkey := keyOf_int_mk (P := Try.prog) Try.underlying94 hw
    exact Maps.look_nil false law60 Try.underlying79 (zero39 W) hkey
  · have hL : ∀ W, Below w.heap.size w W → _ := fun W hW => ((h7.keep (hW.block bn h7.lt)).look Try.underlying94 Try.underlying79 zero39 (c : Int) hw).2
    cases hg : g (c : Int) with
    | none =>
      rw [hg] at hL
      refine ⟨.slice none 0 0, ?_, hL⟩
      rw [h9.no _ hg]
      exact World.ownsRow_nil _ _ 3 1
    | some v =>
      rw [hg] at hL
      exact ⟨v, h9.yes _ v hg, hL⟩
theorem u32_wf {c : Nat} (h : c < 4294967296) : (Lit.int .u32 (c : Int)).wf = true := by
  simp [Lit.wf, IntKind.min, IntKind.max, IntKind.signed, IntKind.bits]
  omega
end Go.Proofs.Ytccahhehbpahoaa
