/- How many bytes parts have; whether one of them may not be. Condition: at most a million parts. -/
import Derived.Test.YtccahhehbpahoaaBoB
namespace Go.Proofs.Ytccahhehbpahoaa
open Go.ChangeShapes Go.WideShapes Go.ChangeAt Go.RowKit
set_option maxRecDepth 4000
set_option linter.unusedVariables false
attribute [local go_sem ↓] Go.wp_at_zero Go.wp_at_succ
theorem all_get {l : List Pt} (h : l.all pieceB = true) {i : Nat} (hi : i < l.length) : Piece (l.getD i pt0) := by
  refine (pieceB_iff _).1 (List.all_eq_true.1 h _ ?_)
  rw [List.getD_eq_getElem?_getD, List.getElem?_eq_getElem hi]
  exact List.getElem_mem hi
set_option maxHeartbeats 2000000 in
theorem length_any {w : World} (a : Option Addr) (l : List Pt) (n cap : Nat) (hn : l.length = n) (hr : PRow w a l) (hm : n ≤ 1000000) (hall : l.all pieceB = true) :
    Calls Try.prog 27 #[.slice a n cap] w fun e w' => e = .returned (.int .i64 (lenP l)) ∧ Below w.heap.size w w' := by
  have HR := hid hr
  have HN := hid hn
  have HA := hid hall
  clear hr hn hall
  go_enter Try.func27, Try.ntmps27
  go_wp2_with fail
  go_loopg [3, 8] n (fun gk v3 v8 wr => ∃ (i : Nat) (s : Int), i + gk = n ∧ v8 = .int .i64 (i : Int) ∧ v3 = .int .i64 s ∧ 0 ≤ s ∧ s ≤ 64 * i ∧ Hid (lenP l = s + lenP (l.drop i)) ∧ Hid (Below w.heap.size w wr))
  case atStart => exact ⟨0, 0, by omega, rfl, rfl, Int.le_refl _, by simp, hid (by show lenP l = 0 + lenP l; omega), hid (Below.refl _ _)⟩
  case round =>
    obtain ⟨i, s, hi, rfl, rfl, hs0, hs1, HL, HB⟩ := hrel
    by_cases hlt : i < n
    · have g : (i : Int) < (n : Int) := by omega
      obtain ⟨b, off, rfl, hblt, hpa⟩ := (HR.out.below HB.out).part (i := i) (by rw [HN.out]; exact hlt)
      have HD := hid (drop_cons (l := l) (i := i) (by rw [HN.out]; exact hlt))
      have hpc := all_get HA.out (i := i) (by rw [HN.out]; exact hlt)
      obtain ⟨x, hx⟩ : ∃ x, l.getD i pt0 = x := ⟨_, rfl⟩
      rw [hx] at hpa HD hpc
      obtain ⟨xo, xl, xc, xa⟩ := x
      obtain ⟨e0, e1, e2, e3⟩ := hpa
      simp only at e0 e1 e2 e3
      obtain ⟨p1, p2, _⟩ := hpc
      simp only at p1 p2
      have HBP := hid (HB.out.trans (((Below.refl wr.heap.size wr).alloc (Nat.le_refl _) (.cells #[.int .i64 xo, .int .i64 xl, .int .i64 xc, .int .i64 xa] 58)).mono HB.out.size))
      have HL2 : Hid (lenP l = s + xl + lenP (l.drop (i + 1))) := by
        show _ = _
        rw [HL.out, HD.out]
        show s + (xl + lenP (l.drop (i + 1))) = _
        omega
      clear hx hblt
      go_wp2_with fail
      go_roundg (gk - 1)
      case measure => omega
      case rel => exact ⟨i + 1, s + xl, by omega, by go_num, by go_num, by omega, by push_cast; omega, HL2, HBP⟩
    · have g : ¬ (i : Int) < (n : Int) := by omega
      have HTT : Hid (lenP l = s) := by
        show _ = _
        rw [HL.out, List.drop_of_length_le (by rw [HN.out]; omega)]
        show s + 0 = s
        omega
      go_wp2_with fail
      go_ret
      exact ⟨ret_int HTT.out.symm, HB.out⟩
theorem not_any (w : World) (o l c a : Int) : Calls Try.prog 25 #[.agg #[.int .i64 o, .int .i64 l, .int .i64 c, .int .i64 a]] w fun e w' => e = .returned (.bool (!pieceB ⟨o, l, c, a⟩)) ∧ Below w.heap.size w w' := by
  have HB := hid ((Below.refl w.heap.size w).alloc (Nat.le_refl _) (.cells #[.int .i64 o, .int .i64 l, .int .i64 c, .int .i64 a] 58))
  go_enter Try.func25, Try.ntmps25
  go_wp2_with fail
  refine (piece_any _ o l c a).mono ?_
  rintro e w3 ⟨rfl, hb3⟩
  have HB3 := hid (HB.out.trans (hb3.mono HB.out.size))
  clear hb3
  go_wp2_with fail
  go_ret
  exact ⟨rfl, HB3.out⟩
theorem any_cons (p : Pt) (ps : List Pt) : (p :: ps).any (fun x => !pieceB x) = (!pieceB p || ps.any (fun x => !pieceB x)) := rfl
set_option maxHeartbeats 2000000 in
theorem index_any {w : World} (a : Option Addr) (l : List Pt) (n cap : Nat) (hn : l.length = n) (hr : PRow w a l) (hm : n ≤ 1000000) :
    Calls Try.prog 43 #[.slice a n cap, .func (.func 25) #[] #[]] w fun e w' => ∃ z : Int, e = .returned (.int .i64 z) ∧ decide (0 ≤ z) = l.any (fun p => !pieceB p) ∧ Below w.heap.size w w' := by
  have HR := hid hr
  have HN := hid hn
  clear hr hn
  have eg : ∀ args w, (callFunc 25 args).run Try.prog w = .ok (.enter 25 args) w := fun _ _ => rfl
  go_enter Try.func43, Try.ntmps43
  go_wp2_with fail
  go_loopg [5, 8] n (fun gk v5 v8 wr => ∃ (i : Nat), i + gk = n ∧ v8 = .int .i64 (i : Int) ∧ Hid (l.any (fun p => !pieceB p) = (l.drop i).any (fun p => !pieceB p)) ∧ Hid (Below w.heap.size w wr))
  case atStart => exact ⟨0, by omega, rfl, hid rfl, hid (Below.refl _ _)⟩
  case round =>
    obtain ⟨i, hi, rfl, HL, HB⟩ := hrel
    by_cases hlt : i < n
    · have g : (i : Int) < (n : Int) := by omega
      obtain ⟨b, off, rfl, hblt, hpa⟩ := (HR.out.below HB.out).part (i := i) (by rw [HN.out]; exact hlt)
      have HD := hid (drop_cons (l := l) (i := i) (by rw [HN.out]; exact hlt))
      obtain ⟨x, hx⟩ : ∃ x, l.getD i pt0 = x := ⟨_, rfl⟩
      rw [hx] at hpa HD
      obtain ⟨xo, xl, xc, xa⟩ := x
      obtain ⟨e0, e1, e2, e3⟩ := hpa
      simp only at e0 e1 e2 e3
      have kn := not_any wr xo xl xc xa
      cases hp : pieceB ⟨xo, xl, xc, xa⟩ with
      | true =>
        rw [hp] at kn
        have HL2 : Hid (l.any (fun p => !pieceB p) = (l.drop (i + 1)).any (fun p => !pieceB p)) := by
          show _ = _
          rw [HL.out, HD.out, any_cons, hp]
          rfl
        have KN := hid kn
        clear hx hblt hp kn
        go_wp2_with fail
        refine KN.out.mono ?_
        rintro e w' ⟨rfl, hb'⟩
        have HB' := hid (HB.out.trans (hb'.mono HB.out.size))
        clear hb'
        go_wp2_with fail
        go_roundg (gk - 1)
        case measure => omega
        case rel => exact ⟨i + 1, by omega, by go_num, HL2, HB'⟩
      | false =>
        rw [hp] at kn
        have HL2 : Hid (l.any (fun p => !pieceB p) = true) := by
          show _ = _
          rw [HL.out, HD.out, any_cons, hp]
          rfl
        have KN := hid kn
        clear hx hblt hp kn
        go_wp2_with fail
        refine KN.out.mono ?_
        rintro e w' ⟨rfl, hb'⟩
        have HB' := hid (HB.out.trans (hb'.mono HB.out.size))
        clear hb'
        go_wp2_with fail
        go_ret
        exact ⟨_, rfl, by rw [HL2.out]; simp, HB'.out⟩
    · have g : ¬ (i : Int) < (n : Int) := by omega
      have HTT : Hid (l.any (fun p => !pieceB p) = false) := by
        show _ = _
        rw [HL.out, List.drop_of_length_le (by rw [HN.out]; omega)]
        rfl
      go_wp2_with fail
      go_ret
      exact ⟨_, rfl, by rw [HTT.out]; rfl, HB.out⟩
theorem contains_any {w : World} (a : Option Addr) (l : List Pt) (n cap : Nat) (hn : l.length = n) (hr : PRow w a l) (hm : n ≤ 1000000) :
    Calls Try.prog 24 #[.slice a n cap, .func (.func 25) #[] #[]] w fun e w' => e = .returned (.bool (!l.all pieceB)) ∧ Below w.heap.size w w' := by
  have K := hid (index_any (w := w) a l n cap hn hr hm)
  have HE : Hid ((!l.all pieceB) = l.any (fun p => !pieceB p)) := by
    show _ = _
    rw [List.not_all_eq_any_not]
  clear hr hn
  go_enter Try.func24, Try.ntmps24
  go_wp2_with fail
  refine K.out.mono ?_
  rintro e w1 ⟨z, rfl, hz, hb⟩
  have HZ := hid hz
  have HB := hid hb
  clear hz hb
  go_wp2_with fail
  go_ret
  exact ⟨ret_bool (by rw [HE.out]; exact HZ.out), HB.out⟩
end Go.Proofs.Ytccahhehbpahoaa
