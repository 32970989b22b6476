/- What the document's own Write and Trunc of a body answer. Condition: at most a hundred thousand parts. -/
import Derived.Test.YtccahhehbpahoaaBoI
namespace Go.Proofs.Ytccahhehbpahoaa
open Go.ChangeShapes Go.WideShapes Go.ChangeAt Go.RowKit
set_option maxRecDepth 4000
set_option linter.unusedVariables false
attribute [local go_sem ↓] Go.wp_at_zero Go.wp_at_succ
/-- A slice that says these parts. -/
def PSl (w : World) (v : Value) (l : List Pt) : Prop := ∃ a cap, v = .slice a l.length cap ∧ PRow w a l ∧ (a = none → cap = 0)
theorem POwn.sl {e : TypeId} {B : Nat} {w : World} {v : Value} {l : List Pt} (h : POwn e B w v l) : PSl w v l := by
  obtain ⟨a, c, h1, _, _, h2, h3⟩ := h.row
  exact ⟨a, c, h1, h2, h3⟩
theorem PSl.below {w w' : World} {v : Value} {l : List Pt} (h : PSl w v l) (hb : Below w.heap.size w w') : PSl w' v l := by
  obtain ⟨a, c, h1, h2, h3⟩ := h
  exact ⟨a, c, h1, h2.below hb, h3⟩
/-- What the document's own answers. -/
def GaveR (w' : World) (e : Ending) (r : Int × List Pt × Nat) : Prop := ∃ v, e = .returned (.tuple #[.agg #[.int .i64 r.1, v], .int .i64 (r.2.2 : Int)]) ∧ PSl w' v r.2.1
structure TwoR (w : World) (q r : Nat) (size : Int) (v : Value) : Prop where
  arg : w.heap[q]? = some (.cells #[.int .i64 size, v] 24 (0, 0))
  res : w.heap[r]? = some (.cells #[.int .i64 0, .slice none 0 0] 24 (0, 0))
theorem TwoR.below {w w' : World} {q r : Nat} {size : Int} {v : Value} (h : TwoR w q r size v) (hb : Below w.heap.size w w') : TwoR w' q r size v :=
  ⟨(hb.block q (lt_of_some h.arg)).trans h.arg, (hb.block r (lt_of_some h.res)).trans h.res⟩
theorem TwoR.cells {w : World} {q r : Nat} {size : Int} {v : Value} (h : TwoR w q r size v) : w.cell? ⟨q, 0, none⟩ = some (.int .i64 size) ∧ w.cell? ⟨q, 1, none⟩ = some v :=
  ⟨by rw [cell_of_row w q 0 _ 24 (0, 0) h.arg]; rfl, by rw [cell_of_row w q 1 _ 24 (0, 0) h.arg]; rfl⟩
theorem twoR_new (w : World) (size : Int) (v : Value) : TwoR ((w.alloc (.cells #[.int .i64 size, v] 24)).alloc (.cells #[.int .i64 0, .slice none 0 0] 24)) w.heap.size (w.heap.size + 1) size v := by
  refine ⟨by rw [heap_alloc_old _ _ (by simp), heap_alloc_new], ?_⟩
  have := heap_alloc_new (w.alloc (.cells #[.int .i64 size, v] 24)) (.cells #[.int .i64 0, .slice none 0 0] 24)
  rw [show (w.alloc (.cells #[.int .i64 size, v] 24)).heap.size = w.heap.size + 1 by simp] at this
  exact this
theorem PSl.setRow {w : World} {v : Value} {l : List Pt} {B r : Nat} {e : TypeId} (h : POwn e B w v l) (hr : r < B) (cs : Array Value) : PSl (w.setRow r cs) v l := (h.setRow hr cs).sl
theorem wout_len (a b : Int) (l : List Pt) : (wout a b l).length ≤ 2 * l.length := by
  induction l with
  | nil => exact Nat.le_refl _
  | cons p ps ih =>
    unfold wout
    simp only [List.length_append, List.length_cons]
    have h1 : (if p.off < a then [(⟨p.off, min (p.off + p.len) a - p.off, p.ch, p.pos⟩ : Pt)] else []).length ≤ 1 := by split <;> simp
    have h2 : (if b < p.off + p.len then [(⟨max p.off b, p.off + p.len - max p.off b, p.ch, p.pos + (max p.off b - p.off)⟩ : Pt)] else []).length ≤ 1 := by split <;> simp
    omega
theorem lows_pos {off : Int} {p : Pt} {ps : List Pt} (h : p.off < off) : lows off (p :: ps) = p :: lows off ps := by
  unfold lows; rw [List.takeWhile_cons_of_pos (by simpa using h)]
theorem lows_neg {off : Int} {p : Pt} {ps : List Pt} (h : ¬ p.off < off) : lows off (p :: ps) = [] := by
  unfold lows; rw [List.takeWhile_cons_of_neg (by simpa using h)]
theorem highs_pos {off : Int} {p : Pt} {ps : List Pt} (h : off ≤ p.off) : highs off (p :: ps) = p :: highs off ps := by
  unfold highs; rw [List.filter_cons_of_pos (by simpa using h)]
theorem highs_neg {off : Int} {p : Pt} {ps : List Pt} (h : ¬ off ≤ p.off) : highs off (p :: ps) = highs off ps := by
  unfold highs; rw [List.filter_cons_of_neg (by simpa using h)]
theorem lows_len (off : Int) (l : List Pt) : (lows off l).length ≤ l.length := by
  unfold lows
  exact (List.takeWhile_sublist _).length_le
set_option maxHeartbeats 2000000 in
theorem refTrunc_any {w : World} (size : Int) (a : Option Addr) (b : List Pt) (n cap : Nat) (hn : b.length = n) (hr : PRow w a b) (hm : n ≤ 100000) (z : Int) (hw1 : -9223372036854775808 ≤ z) (hw2 : z < 9223372036854775808) :
    Calls Try.prog 15 #[.agg #[.int .i64 size, .slice a n cap], .int .i64 z] w fun e w' => GaveR w' e (truncB size b z) ∧ Below w.heap.size w w' := by
  have hb1 := ((Below.refl w.heap.size w).alloc (Nat.le_refl _) (.cells #[.int .i64 size, .slice a n cap] 24)).alloc (by simp) (.cells #[.int .i64 0, .slice none 0 0] 24)
  have HT := hid (twoR_new w size (.slice a n cap))
  have HB1 := hid hb1
  have HR := hid (hr.below hb1)
  have HN := hid hn
  clear hb1 hr hn
  go_enter Try.func15, Try.ntmps15
  go_wp2_with fail
  generalize (w.alloc (.cells #[.int .i64 size, .slice a n cap] 24)).alloc (.cells #[.int .i64 0, .slice none 0 0] 24) = w1 at *
  obtain ⟨q, hq⟩ : ∃ q, w.heap.size = q := ⟨_, rfl⟩
  have HSZ : Hid (w.heap.size ≤ w1.heap.size) := HB1.out.size
  have HQR : Hid (w.heap.size ≤ q ∧ q < w1.heap.size ∧ q + 1 < w1.heap.size) := ⟨by omega, by have := lt_of_some HT.out.arg; omega, by have := lt_of_some HT.out.res; omega⟩
  rw [hq] at HT ⊢
  clear hq
  refine (bodyMay_any size a b n cap HN.out HR.out (by omega)).mono ?_
  rintro e w2 ⟨rfl, hb2⟩
  have HB2 := hid hb2
  have HT2 := hid (HT.out.below hb2)
  clear hb2
  cases hmay : mayB size b with
  | false =>
    have HE : Hid (truncB size b z = (0, [], 1)) := by show _ = _; unfold truncB; rw [hmay]; rfl
    clear hmay
    have HST := hid (store_body size24 (z0 := .int .i64 0) (z1 := .slice none 0 0) HT2.out.res rfl rfl)
    have tok : True := trivial
    go_wp2_with (have _t := tok; refine step_store 24 rfl _ _ rfl _ HST.out ?_; clear tok)
    refine bodyPost_ret (ret_ref Try.results15 _ _ (q + 1) _ _ rfl (setRow_heap w2 (q + 1) _ _ 24 (0, 0) HT2.out.res)) rfl ⟨?_, ?_⟩
    · rw [HE.out]
      exact ⟨_, rfl, (POwn.nil 45 0 _).sl⟩
    · exact below_setRow (HB1.out.trans (HB2.out.mono HSZ.out)) (by have := HQR.out; omega) _
  | true =>
  have HMAY := hid hmay
  have hE : ∀ r, (if 0 ≤ z ∧ z ≤ 1099511627776 then (z, ahead z b, 0) else (0, [], 9)) = r → truncB size b z = r := fun r h => by unfold truncB; rw [hmay, if_pos rfl]; exact h
  clear hmay
  by_cases h0 : 0 ≤ z
  case neg =>
    have HE : Hid (truncB size b z = (0, [], 9)) := hE _ (if_neg (by omega))
    clear hE
    have HST := hid (store_body size24 (z0 := .int .i64 0) (z1 := .slice none 0 0) HT2.out.res rfl rfl)
    have tok : True := trivial
    go_wp2_with (have _t := tok; refine step_store 24 rfl _ _ rfl _ HST.out ?_; clear tok)
    refine bodyPost_ret (ret_ref Try.results15 _ _ (q + 1) _ _ rfl (setRow_heap w2 (q + 1) _ _ 24 (0, 0) HT2.out.res)) rfl ⟨?_, ?_⟩
    · rw [HE.out]
      exact ⟨_, rfl, (POwn.nil 45 0 _).sl⟩
    · exact below_setRow (HB1.out.trans (HB2.out.mono HSZ.out)) (by have := HQR.out; omega) _
  by_cases h1 : z ≤ 1099511627776
  case neg =>
    have HE : Hid (truncB size b z = (0, [], 9)) := hE _ (if_neg (by omega))
    clear hE
    have HST := hid (store_body size24 (z0 := .int .i64 0) (z1 := .slice none 0 0) HT2.out.res rfl rfl)
    have tok : True := trivial
    go_wp2_with (have _t := tok; refine step_store 24 rfl _ _ rfl _ HST.out ?_; clear tok)
    refine bodyPost_ret (ret_ref Try.results15 _ _ (q + 1) _ _ rfl (setRow_heap w2 (q + 1) _ _ 24 (0, 0) HT2.out.res)) rfl ⟨?_, ?_⟩
    · rw [HE.out]
      exact ⟨_, rfl, (POwn.nil 45 0 _).sl⟩
    · exact below_setRow (HB1.out.trans (HB2.out.mono HSZ.out)) (by have := HQR.out; omega) _
  have HE : Hid (truncB size b z = (z, ahead z b, 0)) := hE _ (if_pos ⟨h0, h1⟩)
  clear hE
  obtain ⟨hsz0, hsz1, hok⟩ := mayB_iff.1 HMAY.out
  have HBD := hid (bd_of_ok hok (Int.le_refl _) hsz1)
  have HW : Hid (wout z 4611686018427387904 b = ahead z b) := wout_cut hok (by omega)
  have e1 := HT2.out.cells.2
  clear hok
  go_wp2_with fail
  refine (wout_any a b n cap HN.out (HR.out.below HB2.out) hm HBD.out z 4611686018427387904 h0 (by omega) (by omega) (by omega)).mono ?_
  rintro e w3 ⟨v3, rfl, ho3, hb3⟩
  rw [HW.out] at ho3
  obtain ⟨a3, c3, hv3, _⟩ := ho3.row
  obtain ⟨N3, hN3⟩ : ∃ N3, (ahead z b).length = N3 := ⟨_, rfl⟩
  rw [hN3] at hv3
  subst hv3
  have HO3 := hid ho3
  have HB3 := hid (HB2.out.trans (hb3.mono HB2.out.size))
  have HT3 := hid (HT2.out.below hb3)
  have HST := hid (store_body size24 (z0 := .int .i64 z) (z1 := .slice a3 N3 c3) HT3.out.res rfl rfl)
  clear ho3 hb3 e1 hN3
  have tok : True := trivial
  go_wp2_with (have _t := tok; refine step_store 24 rfl _ _ rfl _ HST.out ?_; clear tok)
  refine bodyPost_ret (ret_ref Try.results15 _ _ (q + 1) _ _ rfl (setRow_heap w3 (q + 1) _ _ 24 (0, 0) HT3.out.res)) rfl ⟨?_, ?_⟩
  · rw [HE.out]
    exact ⟨_, rfl, PSl.setRow HO3.out (by have := HQR.out; have := HB2.out.size; omega) _⟩
  · exact below_setRow (HB1.out.trans (HB3.out.mono HSZ.out)) (by have := HQR.out; omega) _
end Go.Proofs.Ytccahhehbpahoaa
