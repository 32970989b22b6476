/- Parts laid one behind another. Condition: at most a hundred thousand parts. -/
import Derived.Test.YtccahhehbpahoaaBoF
import Derived.Test.YtccahhehbpahoaaBoD
namespace Go.Proofs.Ytccahhehbpahoaa
open Go.ChangeShapes Go.WideShapes Go.ChangeAt Go.RowKit
set_option maxRecDepth 4000
set_option linter.unusedVariables false
attribute [local go_sem ↓] Go.wp_at_zero Go.wp_at_succ
/-- Another place for the i-th part. -/
def mvd (l : List Pt) (i : Nat) (z : Int) : List Pt := l.set i ⟨z, (l.getD i pt0).len, (l.getD i pt0).ch, (l.getD i pt0).pos⟩
theorem pvals_mvd (l : List Pt) (i : Nat) (hi : i < l.length) (z : Int) : pvals (mvd l i z) = (pvals l).set (i * 4) (.int .i64 z) := by
  unfold mvd
  induction l generalizing i with
  | nil => simp at hi
  | cons p l ih =>
    cases i with
    | zero => rfl
    | succ i =>
      have := ih i (by simpa using hi)
      have h2 : (i + 1) * 4 = i * 4 + 1 + 1 + 1 + 1 := by omega
      rw [h2, pvals_cons]
      simp only [List.set_cons_succ, List.getD_cons_succ, pvals_cons]
      rw [this]
theorem POwn.moved {e : TypeId} {B : Nat} {w : World} {g n cap : Nat} {l : List Pt} (hn : l.length = n) (h : POwn e B w (.slice (some ⟨g, 0, none⟩) n cap) l) (i : Nat) (hi : i < l.length) (z : Int) :
    w.frozen? ⟨g, i * 4, none⟩ = false ∧ POwn e B (w.setCell ⟨g, i * 4, none⟩ (.int .i64 z)) (.slice (some ⟨g, 0, none⟩) n cap) (mvd l i z) ∧ B ≤ g ∧ g < w.heap.size := by
  subst hn
  rcases h.2 with ⟨h0, _⟩ | ⟨g', cap', cur, h1, hb, hg, hc, hm, hs, ht⟩
  · simp at h0
  · simp at h1
    obtain ⟨rfl, rfl⟩ := h1
    refine ⟨frozen_of_row w g _ cur e hg, ?_, hb, lt_of_some hg⟩
    have hl : (mvd l i z).length = l.length := by simp [mvd]
    refine ⟨by rw [pvals_len], .inr ⟨g, cap, cur.setIfInBounds (i * 4) (.int .i64 z), by rw [hl], hb, ?_, by rw [hl]; exact hc, hm, by simpa using hs, ?_⟩⟩
    · rw [heap_setCell_same _ _ _ _ _ _ hg]
    · rw [hl, pvals_mvd l i hi z, ← ht, Array.toList_setIfInBounds, List.take_set]
theorem moved_done (done : List Pt) (p : Pt) (ps : List Pt) (z : Int) : mvd (done ++ p :: ps) done.length z = (done ++ [⟨z, p.len, p.ch, p.pos⟩]) ++ ps := by
  unfold mvd
  simp [List.set_append_right]
set_option maxHeartbeats 2000000 in
theorem lay_any {w : World} (a : Option Addr) (l : List Pt) (n cap : Nat) (hn : l.length = n) (hz : a = none → cap = 0) (hr : PRow w a l) (hm : n ≤ 100000) (hall : l.all pieceB = true) (off : Int) (ho : 0 ≤ off) (ho2 : off ≤ 2199023255552) :
    Calls Try.prog 31 #[.slice a n cap, .int .i64 off] w fun e w' => ∃ v, e = .returned v ∧ POwn 58 w.heap.size w' v (lay off l) ∧ Below w.heap.size w w' := by
  have K := hid (pclone_any a l n cap hn hz hr hm)
  have HN := hid hn
  have HA := hid hall
  clear hr hn hall hz
  go_enter Try.func31, Try.ntmps31
  go_wp2_with fail
  refine K.out.mono ?_
  rintro e w1 ⟨v0, rfl, ho', hb'⟩
  obtain ⟨a0, c0, hv, hc0, _⟩ := ho'.row
  rw [HN.out] at hv hc0
  subst hv
  have HO := hid ho'
  have HB := hid hb'
  clear ho' hb' K
  go_wp2_with fail
  go_loopg [1, 11] n (fun gk v1 v11 wr => ∃ (i : Nat) (o : Int) (done : List Pt), i + gk = n ∧ v11 = .int .i64 (i : Int) ∧ v1 = .int .i64 o ∧ done.length = i ∧ 0 ≤ o ∧ o ≤ 2199023255552 + 64 * i ∧ Hid (POwn 58 w.heap.size wr (.slice a0 n c0) (done ++ l.drop i)) ∧ Hid (done ++ lay o (l.drop i) = lay off l) ∧ Hid (Below w.heap.size w wr))
  case atStart => exact ⟨0, off, [], by omega, rfl, rfl, rfl, ho, by omega, HO, hid rfl, HB⟩
  case round =>
    obtain ⟨i, o, done, hi, rfl, rfl, hdn, ho0, ho1, HO, HL, HB⟩ := hrel
    by_cases hlt : i < n
    · have g : (i : Int) < (n : Int) := by omega
      have hD := drop_cons (l := l) (i := i) (by rw [HN.out]; exact hlt)
      have hpc := all_get HA.out (i := i) (by rw [HN.out]; exact hlt)
      have hrow := HO.out.row
      obtain ⟨x, hx⟩ : ∃ x, l.getD i pt0 = x := ⟨_, rfl⟩
      rw [hx] at hD hpc
      obtain ⟨xo, xl, xc, xa⟩ := x
      obtain ⟨p1, p2, _⟩ := hpc
      simp only at p1 p2
      have hlen : (done ++ l.drop i).length = n := by rw [List.length_append, List.length_drop, hdn, HN.out]; omega
      rw [hD] at hrow hlen
      obtain ⟨g1, rfl⟩ : ∃ g1, a0 = some ⟨g1, 0, none⟩ := by
        rcases HO.out.2 with ⟨h0, _⟩ | ⟨g', cap', cur, h1, _⟩
        · simp at h0
          omega
        · simp at h1
          exact ⟨g', h1.1⟩
      have hmv := HO.out
      rw [hD] at hmv
      obtain ⟨hfz, hmv2, hgb, hglt⟩ := POwn.moved hlen hmv i (by rw [hlen]; exact hlt) o
      have e9 : mvd (done ++ ⟨xo, xl, xc, xa⟩ :: l.drop (i + 1)) i o = (done ++ [⟨o, xl, xc, xa⟩]) ++ l.drop (i + 1) := by rw [← hdn]; exact moved_done done ⟨xo, xl, xc, xa⟩ _ o
      rw [e9] at hmv2
      have hlen2 : ((done ++ [(⟨o, xl, xc, xa⟩ : Pt)]) ++ l.drop (i + 1)).length = n := by rw [← hlen]; simp
      obtain ⟨a5, c5, hv5, _, _, hrow5, _⟩ := hmv2.row
      rw [hlen2] at hv5
      simp only [Value.slice.injEq, true_and] at hv5
      obtain ⟨rfl, rfl⟩ := hv5
      obtain ⟨b6, o6, ha6, _, hpa⟩ := hrow5.part (i := i) (by rw [hlen2]; exact hlt)
      simp only [Option.some.injEq, Addr.mk.injEq, and_true] at ha6
      obtain ⟨rfl, rfl⟩ := ha6
      have hg9 : ((done ++ [(⟨o, xl, xc, xa⟩ : Pt)]) ++ l.drop (i + 1)).getD i pt0 = ⟨o, xl, xc, xa⟩ := by
        rw [← hdn]; simp
      rw [hg9] at hpa
      obtain ⟨e0, e1, e2, e3⟩ := hpa
      simp only [Nat.zero_add] at e0 e1 e2 e3
      obtain ⟨hcx, _⟩ : ∃ u, wr.cell? ⟨g1, i * 4, none⟩ = some u := by
        obtain ⟨a7, c7, hv7, _, _, hrow7, _⟩ := hmv.row
        rw [hlen] at hv7
        simp only [Value.slice.injEq, true_and] at hv7
        obtain ⟨rfl, rfl⟩ := hv7
        obtain ⟨b8, o8, ha8, _, hpa8⟩ := hrow7.part (i := i) (by rw [hlen]; exact hlt)
        simp only [Option.some.injEq, Addr.mk.injEq, and_true] at ha8
        obtain ⟨rfl, rfl⟩ := ha8
        have := hpa8.1
        rw [Nat.zero_add] at this
        exact ⟨_, this⟩
      have hb5 : Below w.heap.size w (wr.setCell ⟨g1, i * 4, none⟩ (.int .i64 o)) := HB.out.setCell hgb _
      have HO5 := hid hmv2
      have HB5 := hid hb5
      have HL5 : Hid ((done ++ [(⟨o, xl, xc, xa⟩ : Pt)]) ++ lay (o + xl) (l.drop (i + 1)) = lay off l) := by
        show _ = _
        rw [← HL.out, hD, List.append_assoc]
        rfl
      have HDN : Hid ((done ++ [(⟨o, xl, xc, xa⟩ : Pt)]).length = i + 1) := by show _ = _; simp [hdn]
      clear hx hrow hmv hmv2 hrow5 hb5 e9 hlen hlen2 hg9 hD HO HL HB hglt hgb
      go_wp2_with fail
      refine (end_any _ o xl xc xa (by omega) (by omega)).mono ?_
      rintro e w4 ⟨rfl, hb4⟩
      have HO6 := hid (HO5.out.below hb4)
      have HB6 := hid (HB5.out.trans (hb4.mono HB5.out.size))
      clear hb4 HO5 HB5 e0 e1 e2 e3
      go_wp2_with fail
      go_roundg (gk - 1)
      case measure => omega
      case rel => exact ⟨i + 1, o + xl, _, by omega, by go_num, rfl, HDN.out, by omega, by push_cast; omega, HO6, HL5, HB6⟩
    · have g : ¬ (i : Int) < (n : Int) := by omega
      have HTT : Hid (done = lay off l) := by
        show _ = _
        rw [← HL.out, List.drop_of_length_le (by rw [HN.out]; omega)]
        simp [lay]
      have HTO : Hid (POwn 58 w.heap.size wr (.slice a0 n c0) done) := by
        have := HO.out
        rw [List.drop_of_length_le (by rw [HN.out]; omega), List.append_nil] at this
        exact this
      go_wp2_with fail
      go_ret
      exact ⟨_, rfl, by rw [← HTT.out]; exact HTO.out, HB.out⟩
end Go.Proofs.Ytccahhehbpahoaa
