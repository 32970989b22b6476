/- What the small functions on parts answer: piece, end, the document's own PartMay. No condition. -/
import Derived.Test.YtccahhehbpahoaaPm
namespace Go.Proofs.Ytccahhehbpahoaa
open Go.ChangeShapes Go.WideShapes Go.ChangeAt Go.RowKit
set_option maxRecDepth 4000
set_option linter.unusedVariables false
theorem ret_int {k : IntKind} {a b : Int} (h : a = b) : Ending.returned (.int k a) = .returned (.int k b) := by rw [h]
theorem ret_bool {a b : Bool} (h : a = b) : Ending.returned (.bool a) = .returned (.bool b) := by rw [h]
/-- A part as a value. -/
def pv (p : Pt) : Value := .agg #[.int .i64 p.off, .int .i64 p.len, .int .i64 p.ch, .int .i64 p.pos]
set_option maxHeartbeats 1000000 in
theorem piece_any (w : World) (o l c a : Int) : Calls Try.prog 26 #[.agg #[.int .i64 o, .int .i64 l, .int .i64 c, .int .i64 a]] w fun e w' => e = .returned (.bool (pieceB ⟨o, l, c, a⟩)) ∧ Below w.heap.size w w' := by
  have HT : Hid (pieceB ⟨o, l, c, a⟩ = true ↔ (1 ≤ l ∧ l ≤ 64 ∧ 1 ≤ c ∧ c ≤ 4611686018427387904 ∧ 0 ≤ a ∧ a ≤ 64 - l)) := pieceB_iff ⟨o, l, c, a⟩
  generalize pieceB ⟨o, l, c, a⟩ = r at HT ⊢
  have HF : Hid (¬ (1 ≤ l ∧ l ≤ 64 ∧ 1 ≤ c ∧ c ≤ 4611686018427387904 ∧ 0 ≤ a ∧ a ≤ 64 - l) → r = false) := by
    show _ → _
    intro h
    cases r
    · rfl
    · exact absurd (HT.out.1 rfl) h
  have HB := hid ((Below.refl w.heap.size w).alloc (Nat.le_refl _) (.cells #[.int .i64 o, .int .i64 l, .int .i64 c, .int .i64 a] 58))
  go_enter Try.func26, Try.ntmps26
  by_cases h0 : 1 ≤ l
  case neg =>
    go_wp2_with fail
    go_ret
    exact ⟨ret_bool (by rw [HF.out (by omega)]), HB.out⟩
  by_cases h1 : l ≤ 64
  case neg =>
    go_wp2_with fail
    go_ret
    exact ⟨ret_bool (by rw [HF.out (by omega)]), HB.out⟩
  by_cases h2 : 1 ≤ c
  case neg =>
    go_wp2_with fail
    go_ret
    exact ⟨ret_bool (by rw [HF.out (by omega)]), HB.out⟩
  by_cases h3 : c ≤ 4611686018427387904
  case neg =>
    go_wp2_with fail
    go_ret
    exact ⟨ret_bool (by rw [HF.out (by omega)]), HB.out⟩
  by_cases h4 : 0 ≤ a
  case neg =>
    go_wp2_with fail
    go_ret
    exact ⟨ret_bool (by rw [HF.out (by omega)]), HB.out⟩
  by_cases h5 : a ≤ 64 - l
  case neg =>
    go_wp2_with fail
    go_ret
    exact ⟨ret_bool (by rw [HF.out (by omega)]), HB.out⟩
  have HR := hid (HT.out.2 ⟨h0, h1, h2, h3, h4, h5⟩)
  go_wp2_with fail
  go_ret
  exact ⟨ret_bool HR.out.symm, HB.out⟩
set_option maxHeartbeats 1000000 in
theorem partMay_any (w : World) (o l c a : Int) : Calls Try.prog 33 #[.agg #[.int .i64 o, .int .i64 l, .int .i64 c, .int .i64 a]] w fun e w' => e = .returned (.bool (pieceB ⟨o, l, c, a⟩)) ∧ Below w.heap.size w w' := by
  have HT : Hid (pieceB ⟨o, l, c, a⟩ = true ↔ (1 ≤ l ∧ l ≤ 64 ∧ 1 ≤ c ∧ c ≤ 4611686018427387904 ∧ 0 ≤ a ∧ a ≤ 64 - l)) := pieceB_iff ⟨o, l, c, a⟩
  generalize pieceB ⟨o, l, c, a⟩ = r at HT ⊢
  have HF : Hid (¬ (1 ≤ l ∧ l ≤ 64 ∧ 1 ≤ c ∧ c ≤ 4611686018427387904 ∧ 0 ≤ a ∧ a ≤ 64 - l) → r = false) := by
    show _ → _
    intro h
    cases r
    · rfl
    · exact absurd (HT.out.1 rfl) h
  have HB := hid ((Below.refl w.heap.size w).alloc (Nat.le_refl _) (.cells #[.int .i64 o, .int .i64 l, .int .i64 c, .int .i64 a] 45))
  go_enter Try.func33, Try.ntmps33
  by_cases h0 : 1 ≤ l
  case neg =>
    go_wp2_with fail
    go_ret
    exact ⟨ret_bool (by rw [HF.out (by omega)]), HB.out⟩
  by_cases h1 : l ≤ 64
  case neg =>
    go_wp2_with fail
    go_ret
    exact ⟨ret_bool (by rw [HF.out (by omega)]), HB.out⟩
  by_cases h2 : 1 ≤ c
  case neg =>
    go_wp2_with fail
    go_ret
    exact ⟨ret_bool (by rw [HF.out (by omega)]), HB.out⟩
  by_cases h3 : c ≤ 4611686018427387904
  case neg =>
    go_wp2_with fail
    go_ret
    exact ⟨ret_bool (by rw [HF.out (by omega)]), HB.out⟩
  by_cases h4 : 0 ≤ a
  case neg =>
    go_wp2_with fail
    go_ret
    exact ⟨ret_bool (by rw [HF.out (by omega)]), HB.out⟩
  by_cases h5 : a ≤ 64 - l
  case neg =>
    go_wp2_with fail
    go_ret
    exact ⟨ret_bool (by rw [HF.out (by omega)]), HB.out⟩
  have HR := hid (HT.out.2 ⟨h0, h1, h2, h3, h4, h5⟩)
  go_wp2_with fail
  go_ret
  exact ⟨ret_bool HR.out.symm, HB.out⟩
theorem end_any (w : World) (o l c a : Int) (h1 : -9223372036854775808 ≤ o + l) (h2 : o + l < 9223372036854775808) : Calls Try.prog 35 #[.agg #[.int .i64 o, .int .i64 l, .int .i64 c, .int .i64 a]] w fun e w' => e = .returned (.int .i64 (o + l)) ∧ Below w.heap.size w w' := by
  have HB := hid ((Below.refl w.heap.size w).alloc (Nat.le_refl _) (.cells #[.int .i64 o, .int .i64 l, .int .i64 c, .int .i64 a] 58))
  go_enter Try.func35, Try.ntmps35
  go_wp2_with fail
  go_ret
  exact ⟨rfl, HB.out⟩
end Go.Proofs.Ytccahhehbpahoaa
