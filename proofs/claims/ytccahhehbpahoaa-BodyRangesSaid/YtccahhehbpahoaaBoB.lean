/- What May of a body answers, and the document's own; how many bytes parts have; whether one of them may not be. Condition: at most a million parts. -/
import Derived.Test.YtccahhehbpahoaaBoA
namespace Go.Proofs.Ytccahhehbpahoaa
open Go.ChangeShapes Go.WideShapes Go.ChangeAt Go.RowKit
set_option maxRecDepth 4000
set_option linter.unusedVariables false
attribute [local go_sem ↓] Go.wp_at_zero Go.wp_at_succ
theorem okB_bad {last size o l c a : Int} {ps : List Pt} (h : ¬ ((1 ≤ l ∧ l ≤ 64 ∧ 1 ≤ c ∧ c ≤ 4611686018427387904 ∧ 0 ≤ a ∧ a ≤ 64 - l) ∧ last ≤ o ∧ o ≤ size - l)) : okB last size (⟨o, l, c, a⟩ :: ps) = false := by
  cases e : okB last size (⟨o, l, c, a⟩ :: ps) with
  | false => rfl
  | true =>
    obtain ⟨a1, a2, a3, _⟩ := okB_cons.1 e
    simp only [Piece] at a1 a2 a3
    exact absurd ⟨a1, a2, by omega⟩ h
theorem okB_step {last size o l c a : Int} {ps : List Pt} (h : pieceB ⟨o, l, c, a⟩ = true) (h1 : last ≤ o) (h2 : o ≤ size - l) : okB last size (⟨o, l, c, a⟩ :: ps) = okB (o + l) size ps := by
  show (pieceB ⟨o, l, c, a⟩ && (decide (last ≤ o) && (decide (o ≤ size - l) && okB (o + l) size ps))) = _
  rw [h, decide_eq_true h1, decide_eq_true h2]
  rfl
set_option maxHeartbeats 2000000 in
theorem may_any16 {w : World} (size : Int) (a : Option Addr) (l : List Pt) (n cap : Nat) (hn : l.length = n) (hr : PRow w a l) (hm : n ≤ 1000000) :
    Calls Try.prog 16 #[.agg #[.int .i64 size, .slice a n cap]] w fun e w' => e = .returned (.bool (mayB size l)) ∧ Below w.heap.size w w' := by
  have hb1 := (Below.refl w.heap.size w).alloc (Nat.le_refl _) (.cells #[.int .i64 size, .slice a n cap] 29)
  have HB1 := hid hb1
  have HQ1 := hid (heap_alloc_new w (.cells #[.int .i64 size, .slice a n cap] 29))
  have HR := hid (hr.below hb1)
  have HN := hid hn
  clear hb1 hr hn
  have HF : Hid (¬ (0 ≤ size ∧ size ≤ 1099511627776) → mayB size l = false) := by
    show _ → _
    intro h
    cases e : mayB size l with
    | false => rfl
    | true =>
      obtain ⟨a, b, _⟩ := mayB_iff.1 e
      exact absurd ⟨a, b⟩ h
  go_enter Try.func16, Try.ntmps16
  by_cases h0 : 0 ≤ size
  case neg =>
    go_wp2_with fail
    go_ret
    exact ⟨ret_bool (by rw [HF.out (by omega)]), HB1.out⟩
  by_cases h1 : size ≤ 1099511627776
  case neg =>
    go_wp2_with fail
    go_ret
    exact ⟨ret_bool (by rw [HF.out (by omega)]), HB1.out⟩
  have HM : Hid (mayB size l = okB 0 size l) := by
    show _ = _
    unfold mayB
    rw [decide_eq_true h0, decide_eq_true h1]
    simp
  rw [HM.out]
  clear HF HM
  go_wp2_with fail
  generalize w.alloc (.cells #[.int .i64 size, .slice a n cap] 29) = w1 at *
  obtain ⟨q, hq⟩ : ∃ q, w.heap.size = q := ⟨_, rfl⟩
  rw [hq] at HQ1 ⊢
  have HSZ : Hid (w.heap.size ≤ w1.heap.size) := HB1.out.size
  clear hq
  go_loopg [3, 17] n (fun gk v3 v17 wr => ∃ (i : Nat) (last : Int), i + gk = n ∧ v17 = .int .i64 (i : Int) ∧ v3 = .int .i64 last ∧ 0 ≤ last ∧ Hid (okB 0 size l = okB last size (l.drop i)) ∧ Hid (Below w1.heap.size w1 wr))
  case atStart => exact ⟨0, 0, by omega, rfl, rfl, Int.le_refl _, hid rfl, hid (Below.refl _ _)⟩
  case round =>
    obtain ⟨i, last, hi, rfl, rfl, hl0, HO, HB⟩ := hrel
    by_cases hlt : i < n
    · have g : (i : Int) < (n : Int) := by omega
      obtain ⟨b, off, rfl, hblt, hpa⟩ := (HR.out.below HB.out).part (i := i) (by rw [HN.out]; exact hlt)
      have HD := hid (drop_cons (l := l) (i := i) (by rw [HN.out]; exact hlt))
      obtain ⟨x, hx⟩ : ∃ x, l.getD i pt0 = x := ⟨_, rfl⟩
      rw [hx] at hpa HD
      obtain ⟨xo, xl, xc, xa⟩ := x
      obtain ⟨e0, e1, e2, e3⟩ := hpa
      simp only at e0 e1 e2 e3
      have hq0 := (HB.out.block q (lt_of_some HQ1.out)).trans HQ1.out
      have hbp := (Below.refl wr.heap.size wr).alloc (Nat.le_refl _) (.cells #[.int .i64 xo, .int .i64 xl, .int .i64 xc, .int .i64 xa] 58)
      have HP := hid (heap_alloc_new wr (.cells #[.int .i64 xo, .int .i64 xl, .int .i64 xc, .int .i64 xa] 58))
      have HBP := hid (HB.out.trans (hbp.mono HB.out.size))
      have HQ0 := hid ((hbp.block q (lt_of_some hq0)).trans hq0)
      clear hx hblt hq0 hbp
      go_wp2_with fail
      generalize wr.alloc (.cells #[.int .i64 xo, .int .i64 xl, .int .i64 xc, .int .i64 xa] 58) = w2 at *
      generalize wr.heap.size = y at *
      refine (piece_any w2 xo xl xc xa).mono ?_
      rintro e w3 ⟨rfl, hb3⟩
      have hp3 := (hb3.block y (lt_of_some HP.out)).trans HP.out
      have hq3 := (hb3.block q (lt_of_some HQ0.out)).trans HQ0.out
      have HB3 := hid (HBP.out.trans (hb3.mono HBP.out.size))
      have c0 : w3.cell? ⟨y, 0, none⟩ = some (.int .i64 xo) := by rw [cell_of_row w3 y 0 _ 58 (0, 0) hp3]; rfl
      have c1 : w3.cell? ⟨y, 1, none⟩ = some (.int .i64 xl) := by rw [cell_of_row w3 y 1 _ 58 (0, 0) hp3]; rfl
      have c2 : w3.cell? ⟨y, 2, none⟩ = some (.int .i64 xc) := by rw [cell_of_row w3 y 2 _ 58 (0, 0) hp3]; rfl
      have c3 : w3.cell? ⟨y, 3, none⟩ = some (.int .i64 xa) := by rw [cell_of_row w3 y 3 _ 58 (0, 0) hp3]; rfl
      have d0 : w3.cell? ⟨q, 0, none⟩ = some (.int .i64 size) := by rw [cell_of_row w3 q 0 _ 29 (0, 0) hq3]; rfl
      clear hb3 hp3 hq3 e0 e1 e2 e3
      cases hpc : pieceB ⟨xo, xl, xc, xa⟩ with
      | false =>
        have HFF : Hid (okB 0 size l = false) := by
          show _ = _
          rw [HO.out, HD.out]
          refine okB_bad (fun h => ?_)
          have := (pieceB_iff ⟨xo, xl, xc, xa⟩).2 h.1
          rw [hpc] at this
          exact absurd this (by decide)
        clear hpc
        go_wp2_with fail
        go_ret
        exact ⟨ret_bool (by rw [HFF.out]), HB1.out.trans (HB3.out.mono HSZ.out)⟩
      | true =>
        have hpp := (pieceB_iff _).1 hpc
        simp only [Piece] at hpp
        obtain ⟨p1, p2, p3, p4, p5, p6⟩ := hpp
        have HPC := hid hpc
        clear hpc
        by_cases hlo : last ≤ xo
        case neg =>
          have HFF : Hid (okB 0 size l = false) := by
            show _ = _
            rw [HO.out, HD.out]
            exact okB_bad (by omega)
          go_wp2_with fail
          go_ret
          exact ⟨ret_bool (by rw [HFF.out]), HB1.out.trans (HB3.out.mono HSZ.out)⟩
        by_cases hhi : xo ≤ size - xl
        case neg =>
          have HFF : Hid (okB 0 size l = false) := by
            show _ = _
            rw [HO.out, HD.out]
            exact okB_bad (by omega)
          go_wp2_with fail
          go_ret
          exact ⟨ret_bool (by rw [HFF.out]), HB1.out.trans (HB3.out.mono HSZ.out)⟩
        have HST : Hid (okB 0 size l = okB (xo + xl) size (l.drop (i + 1))) := by
          show _ = _
          rw [HO.out, HD.out]
          exact okB_step HPC.out hlo hhi
        go_wp2_with fail
        refine (end_any w3 xo xl xc xa (by omega) (by omega)).mono ?_
        rintro e w4 ⟨rfl, hb4⟩
        have HB4 := hid (HB3.out.trans (hb4.mono HB3.out.size))
        clear hb4
        go_wp2_with fail
        go_roundg (gk - 1)
        case measure => omega
        case rel => exact ⟨i + 1, xo + xl, by omega, by go_num, rfl, by omega, HST, HB4⟩
    · have g : ¬ (i : Int) < (n : Int) := by omega
      have HTT : Hid (okB 0 size l = true) := by
        show _ = _
        rw [HO.out, List.drop_of_length_le (by rw [HN.out]; omega)]
        rfl
      go_wp2_with fail
      go_ret
      exact ⟨ret_bool (by rw [HTT.out]), HB1.out.trans (HB.out.mono HSZ.out)⟩
end Go.Proofs.Ytccahhehbpahoaa
