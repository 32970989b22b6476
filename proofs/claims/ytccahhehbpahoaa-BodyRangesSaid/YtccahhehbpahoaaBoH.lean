/- What Write and Trunc of a body answer. Condition: at most a hundred thousand parts. -/
import Derived.Test.YtccahhehbpahoaaBoG
import Derived.Deep.RegionHeld
namespace Go.Proofs.Ytccahhehbpahoaa
open Go.ChangeShapes Go.WideShapes Go.ChangeAt Go.RowKit
set_option maxRecDepth 4000
set_option linter.unusedVariables false
attribute [local go_sem ↓] Go.wp_at_zero Go.wp_at_succ
section
variable {P : Program} {ops : Array Oper} {rest : List Oper} {op : Oper} {a : Act} {w : World} {Q : Exit → Act → World → Prop}
theorem step_store (ty : TypeId) (hgd : op.guard = none) (x y : Operand) (ho : op.op = .store ty x y) (w' : World) (hrun : (Instr.storeAt ty (a.eval x) (a.eval y)).run P w = .ok () w')
    (h : wpList P ops Q rest (a.put op.dst undef) w') : wpList P ops Q (op :: rest) a w :=
  wpList_plain hgd fun _ hK => by
    unfold Oper.wp execOp
    simp only [ho, Sem.run_bind, Sem.run_pure, Result.andThen_ok, hrun]
    exact hK _ _ h
end
theorem splice_all {α : Type} (a b : List α) (h : b.length = a.length) : splice a 0 b = b := by
  simp [splice, h]
/-- A value of many cells into a block that is known whole. -/
theorem run_storeAt_row (w : World) (g o : Nat) (t ty : TypeId) (cur cs : List Value) (hg : w.heap[g]? = some (.cells cur.toArray t (0, 0))) (hi : (Try.prog.info? ty).map (·.size) = some cs.length) (hfit : o + cs.length ≤ cur.length) (h1 : ∀ v ∈ cs, v.oneCell' = true) :
    (Instr.storeAt ty (.pointer (some ⟨g, o, none⟩)) (.agg cs.toArray)).run Try.prog w = .ok () (w.setRow g (splice cur o cs).toArray) := by
  have hst := run_storeCells_at Try.prog g o t cs 0 cur.toArray w hg (by simpa using hfit) h1
  cases hq : Try.prog.info? ty with
  | none => simp [hq] at hi
  | some i =>
    have hs : cs.length = i.size := by simp [hq] at hi; omega
    simp [Instr.storeAt, Instr.sureAddr, storeVar, sizeOf, typeInfo, hq, Value.cells, hs] at hst ⊢
    rw [hst]
    simp [splice, hs]
theorem size29 : (Try.prog.info? 29).map (fun x => x.size) = some 2 := by kernel_rfl
theorem size24 : (Try.prog.info? 24).map (fun x => x.size) = some 2 := by kernel_rfl
theorem ret_body {fn : Func} {p u : Tmp} (h : fn.results = #[.cell p 29, .tmp u]) (tmps : Array Value) (w : World) (g : Nat) (x y : Value) (hp : tmps.getD p undef = .pointer (some ⟨g, 0, none⟩)) (hg : w.heap[g]? = some (.cells #[x, y] 29 (0, 0))) :
    (results fn tmps).run Try.prog w = .ok (.tuple #[.agg #[x, y], tmps.getD u undef]) w := by
  rw [results_cell_tmp h, hp]
  simp [asAddr, run_loadVar_row w g 29 29 #[x, y] (0, 0) _ hg Try.underlying29 rfl (by exact size29), Result.andThen]
theorem ret_ref {fn : Func} {p u : Tmp} (h : fn.results = #[.cell p 24, .tmp u]) (tmps : Array Value) (w : World) (g : Nat) (x y : Value) (hp : tmps.getD p undef = .pointer (some ⟨g, 0, none⟩)) (hg : w.heap[g]? = some (.cells #[x, y] 24 (0, 0))) :
    (results fn tmps).run Try.prog w = .ok (.tuple #[.agg #[x, y], tmps.getD u undef]) w := by
  rw [results_cell_tmp h, hp]
  simp [asAddr, run_loadVar_row w g 24 24 #[x, y] (0, 0) _ hg Try.underlying24 rfl (by exact size24), Result.andThen]
theorem store_body {w : World} {y : Nat} {ty : TypeId} (hs : (Try.prog.info? ty).map (fun x => x.size) = some 2) {u v z0 z1 : Value} (h : w.heap[y]? = some (.cells #[u, v] ty (0, 0))) (h0 : z0.oneCell' = true) (h1 : z1.oneCell' = true) :
    (Instr.storeAt ty (.pointer (some ⟨y, 0, none⟩)) (.agg #[z0, z1])).run Try.prog w = .ok () (w.setRow y #[z0, z1]) := by
  have e := run_storeAt_row w y 0 ty ty [u, v] [z0, z1] h hs (by simp) (by intro x hx; simp at hx; rcases hx with rfl | rfl <;> assumption)
  rw [splice_all _ _ (by simp)] at e
  exact e
theorem POwn.setRow {e : TypeId} {B : Nat} {w : World} {v : Value} {l : List Pt} (h : POwn e B w v l) {r : Nat} (hr : r < B) (cs : Array Value) : POwn e B (w.setRow r cs) v l :=
  owns_keep h fun k cur _ hb hk => (setRow_other w r k cs (by omega)).trans hk
theorem POwn.set2 {e : TypeId} {B : Nat} {w : World} {v : Value} {l : List Pt} (h : POwn e B w v l) {r : Nat} (hr : r < B) (x y : Value) : POwn e B ((w.setCell ⟨r, 0, none⟩ x).setCell ⟨r, 1, none⟩ y) v l :=
  owns_keep h fun k cur _ hb hk => by rw [Below.heap_setCell _ _ _ _ (by simp; omega), Below.heap_setCell _ _ _ _ (by simp; omega)]; exact hk
theorem res_set2 {w : World} {r : Nat} {ty : TypeId} {u v : Value} (h : w.heap[r]? = some (.cells #[u, v] ty (0, 0))) (x y : Value) : ((w.setCell ⟨r, 0, none⟩ x).setCell ⟨r, 1, none⟩ y).heap[r]? = some (.cells #[x, y] ty (0, 0)) := by
  have h1 : (w.setCell ⟨r, 0, none⟩ x).heap[r]? = some (.cells #[x, v] ty (0, 0)) := by rw [heap_setCell_same _ _ _ _ _ _ h]; rfl
  rw [heap_setCell_same _ _ _ _ _ _ h1]
  rfl
theorem ahead_len (off : Int) (l : List Pt) : (ahead off l).length ≤ l.length := by
  induction l with
  | nil => exact Nat.le_refl _
  | cons p ps ih =>
    unfold ahead
    split
    · exact Nat.zero_le _
    · simp only [List.length_cons]; omega
theorem behind_len (off : Int) (l : List Pt) : (behind off l).length ≤ l.length := by
  induction l with
  | nil => exact Nat.le_refl _
  | cons p ps ih =>
    unfold behind
    split
    · simp only [List.length_cons]; omega
    · simp only [List.length_cons]; omega
theorem lay_len (off : Int) (l : List Pt) : (lay off l).length = l.length := by
  induction l generalizing off with
  | nil => rfl
  | cons p ps ih =>
    unfold lay
    simp only [List.length_cons, ih]
theorem POwn.one_cell {e : TypeId} {B : Nat} {w : World} {v : Value} {l : List Pt} (h : POwn e B w v l) : v.oneCell' = true := by
  obtain ⟨a, c, rfl, _⟩ := h.row
  rfl
/-- What is answered: a body, and the error's number. -/
def Gave (B : Nat) (w' : World) (e : Ending) (r : Int × List Pt × Nat) : Prop := ∃ v, e = .returned (.tuple #[.agg #[.int .i64 r.1, v], .int .i64 (r.2.2 : Int)]) ∧ POwn 58 B w' v r.2.1
theorem writeB_arg {size off : Int} {b l : List Pt} (h : ¬ (mayB size b = true ∧ l.all pieceB = true)) : writeB size b off l = (0, [], 1) := by unfold writeB; rw [if_neg h]
theorem writeB_size {size off : Int} {b l : List Pt} (h : mayB size b = true ∧ l.all pieceB = true) (h1 : ¬ (0 ≤ off ∧ off ≤ 1099511627776 - lenP l)) : writeB size b off l = (0, [], 9) := by unfold writeB; rw [if_pos h, if_neg h1]
theorem writeB_nil {size off : Int} {b : List Pt} (h : mayB size b = true) (h1 : 0 ≤ off ∧ off ≤ 1099511627776) : writeB size b off [] = (size, b, 0) := by
  unfold writeB
  rw [if_pos ⟨h, rfl⟩, if_pos ⟨h1.1, by show off ≤ 1099511627776 - 0; omega⟩, if_pos rfl]
theorem writeB_some {size off : Int} {b l : List Pt} (h : mayB size b = true ∧ l.all pieceB = true) (h1 : 0 ≤ off ∧ off ≤ 1099511627776 - lenP l) (hl : l ≠ []) : writeB size b off l = (max size (off + lenP l), ahead off b ++ (lay off l ++ behind (off + lenP l) b), 0) := by unfold writeB; rw [if_pos h, if_pos h1, if_neg hl]
theorem lenP_le {l : List Pt} (h : l.all pieceB = true) : lenP l ≤ 64 * (l.length : Int) := by
  induction l with
  | nil => exact Int.le_refl _
  | cons p ps ih =>
    rw [List.all_cons, Bool.and_eq_true] at h
    have h1 := (pieceB_iff p).1 h.1
    have := ih h.2
    have h2 := h1.2.1
    show p.len + lenP ps ≤ 64 * ((ps.length + 1 : Nat) : Int)
    omega
/-- The body that came in, and the one that is to be answered, as they lie ahead. -/
structure Two (w : World) (q r : Nat) (size : Int) (v : Value) : Prop where
  arg : w.heap[q]? = some (.cells #[.int .i64 size, v] 29 (0, 0))
  res : w.heap[r]? = some (.cells #[.int .i64 0, .slice none 0 0] 29 (0, 0))
theorem Two.below {w w' : World} {q r : Nat} {size : Int} {v : Value} (h : Two w q r size v) (hb : Below w.heap.size w w') : Two w' q r size v :=
  ⟨(hb.block q (lt_of_some h.arg)).trans h.arg, (hb.block r (lt_of_some h.res)).trans h.res⟩
theorem Two.cells {w : World} {q r : Nat} {size : Int} {v : Value} (h : Two w q r size v) : w.cell? ⟨q, 0, none⟩ = some (.int .i64 size) ∧ w.cell? ⟨q, 1, none⟩ = some v ∧ w.cell? ⟨r, 0, none⟩ = some (.int .i64 0) ∧ w.cell? ⟨r, 1, none⟩ = some (.slice none 0 0) ∧ w.frozen? ⟨r, 0, none⟩ = false ∧ w.frozen? ⟨r, 1, none⟩ = false :=
  ⟨by rw [cell_of_row w q 0 _ 29 (0, 0) h.arg]; rfl, by rw [cell_of_row w q 1 _ 29 (0, 0) h.arg]; rfl, by rw [cell_of_row w r 0 _ 29 (0, 0) h.res]; rfl, by rw [cell_of_row w r 1 _ 29 (0, 0) h.res]; rfl, frozen_of_row w r 0 _ 29 h.res, frozen_of_row w r 1 _ 29 h.res⟩
theorem two_new (w : World) (size : Int) (v : Value) : Two ((w.alloc (.cells #[.int .i64 size, v] 29)).alloc (.cells #[.int .i64 0, .slice none 0 0] 29)) w.heap.size (w.heap.size + 1) size v := by
  refine ⟨by rw [heap_alloc_old _ _ (by simp), heap_alloc_new], ?_⟩
  have := heap_alloc_new (w.alloc (.cells #[.int .i64 size, v] 29)) (.cells #[.int .i64 0, .slice none 0 0] 29)
  rw [show (w.alloc (.cells #[.int .i64 size, v] 29)).heap.size = w.heap.size + 1 by simp] at this
  exact this
set_option maxHeartbeats 2000000 in
theorem write_any {w : World} (size : Int) (a : Option Addr) (b : List Pt) (n cap : Nat) (hn : b.length = n) (hz : a = none → cap = 0) (hr : PRow w a b) (hm : n ≤ 100000) (off : Int) (hw1 : -9223372036854775808 ≤ off) (hw2 : off < 9223372036854775808) (a2 : Option Addr) (l : List Pt) (m c2 : Nat) (hn2 : l.length = m) (hz2 : a2 = none → c2 = 0) (hr2 : PRow w a2 l) (hm2 : m ≤ 100000) :
    Calls Try.prog 10 #[.agg #[.int .i64 size, .slice a n cap], .int .i64 off, .slice a2 m c2] w fun e w' => Gave w.heap.size w' e (writeB size b off l) ∧ Below w.heap.size w w' := by
  have hb1 := ((Below.refl w.heap.size w).alloc (Nat.le_refl _) (.cells #[.int .i64 size, .slice a n cap] 29)).alloc (by simp) (.cells #[.int .i64 0, .slice none 0 0] 29)
  have HT := hid (two_new w size (.slice a n cap))
  have HB1 := hid hb1
  have HR := hid (hr.below hb1)
  have HR2 := hid (hr2.below hb1)
  have HN := hid hn
  have HN2 := hid hn2
  have HZ := hid (And.intro hz hz2)
  clear hb1 hr hr2 hn hn2 hz hz2
  go_enter Try.func10, Try.ntmps10
  go_wp2_with fail
  generalize (w.alloc (.cells #[.int .i64 size, .slice a n cap] 29)).alloc (.cells #[.int .i64 0, .slice none 0 0] 29) = w1 at *
  obtain ⟨q, hq⟩ : ∃ q, w.heap.size = q := ⟨_, rfl⟩
  have HSZ : Hid (w.heap.size ≤ w1.heap.size) := HB1.out.size
  have HQR : Hid (w.heap.size ≤ q ∧ q < w1.heap.size ∧ q + 1 < w1.heap.size) := ⟨by omega, by have := lt_of_some HT.out.arg; omega, by have := lt_of_some HT.out.res; omega⟩
  rw [hq] at HT ⊢
  clear hq
  refine (may_any16 size a b n cap HN.out HR.out (by omega)).mono ?_
  rintro e w2 ⟨rfl, hb2⟩
  have HB2 := hid hb2
  have HT2 := hid (HT.out.below hb2)
  clear hb2
  cases hmay : mayB size b with
  | false =>
    have HE : Hid (writeB size b off l = (0, [], 1)) := writeB_arg (by rw [hmay]; simp)
    have HST := hid (store_body size29 (z0 := .int .i64 0) (z1 := .slice none 0 0) HT2.out.res rfl rfl)
    clear hmay
    have tok : True := trivial
    go_wp2_with (have _t := tok; refine step_store 29 rfl _ _ rfl _ HST.out ?_; clear tok)
    refine bodyPost_ret (ret_body Try.results10 _ _ (q + 1) _ _ rfl (setRow_heap w2 (q + 1) _ _ 29 (0, 0) HT2.out.res)) rfl ⟨?_, ?_⟩
    · rw [HE.out]
      exact ⟨_, rfl, POwn.nil _ _ _⟩
    · exact below_setRow (HB1.out.trans (HB2.out.mono HSZ.out)) (by have := HQR.out; omega) _
  | true =>
  have HMAY := hid hmay
  clear hmay
  go_wp2_with fail
  refine (contains_any a2 l m c2 HN2.out (HR2.out.below HB2.out) (by omega)).mono ?_
  rintro e w3 ⟨rfl, hb3⟩
  have HB3 := hid (HB2.out.trans (hb3.mono HB2.out.size))
  have HT3 := hid (HT2.out.below hb3)
  clear hb3 HB2 HT2
  cases hall : l.all pieceB with
  | false =>
    have HE : Hid (writeB size b off l = (0, [], 1)) := writeB_arg (by rw [hall]; simp)
    have HST := hid (store_body size29 (z0 := .int .i64 0) (z1 := .slice none 0 0) HT3.out.res rfl rfl)
    clear hall
    have tok : True := trivial
    go_wp2_with (have _t := tok; refine step_store 29 rfl _ _ rfl _ HST.out ?_; clear tok)
    refine bodyPost_ret (ret_body Try.results10 _ _ (q + 1) _ _ rfl (setRow_heap w3 (q + 1) _ _ 29 (0, 0) HT3.out.res)) rfl ⟨?_, ?_⟩
    · rw [HE.out]
      exact ⟨_, rfl, POwn.nil _ _ _⟩
    · exact below_setRow (HB1.out.trans (HB3.out.mono HSZ.out)) (by have := HQR.out; omega) _
  | true =>
  have HALL := hid hall
  have hl0 := lenP_nonneg hall
  have hl1 := lenP_le hall
  rw [HN2.out] at hl0 hl1
  clear hall
  go_wp2_with fail
  refine (length_any a2 l m c2 HN2.out (HR2.out.below HB3.out) (by omega) HALL.out).mono ?_
  rintro e w4 ⟨rfl, hb4⟩
  have HB4 := hid (HB3.out.trans (hb4.mono HB3.out.size))
  have HT4 := hid (HT3.out.below hb4)
  clear hb4 HB3 HT3
  obtain ⟨L, hL⟩ : ∃ L, lenP l = L := ⟨_, rfl⟩
  rw [hL] at hl0 hl1 ⊢
  have HLL := hid hL
  clear hL
  by_cases ho0 : 0 ≤ off
  case neg =>
    have HE : Hid (writeB size b off l = (0, [], 9)) := writeB_size ⟨HMAY.out, HALL.out⟩ (by omega)
    have HST := hid (store_body size29 (z0 := .int .i64 0) (z1 := .slice none 0 0) HT4.out.res rfl rfl)
    have tok : True := trivial
    go_wp2_with (have _t := tok; refine step_store 29 rfl _ _ rfl _ HST.out ?_; clear tok)
    refine bodyPost_ret (ret_body Try.results10 _ _ (q + 1) _ _ rfl (setRow_heap w4 (q + 1) _ _ 29 (0, 0) HT4.out.res)) rfl ⟨?_, ?_⟩
    · rw [HE.out]
      exact ⟨_, rfl, POwn.nil _ _ _⟩
    · exact below_setRow (HB1.out.trans (HB4.out.mono HSZ.out)) (by have := HQR.out; omega) _
  by_cases ho1 : off ≤ 1099511627776 - L
  case neg =>
    have HE : Hid (writeB size b off l = (0, [], 9)) := writeB_size ⟨HMAY.out, HALL.out⟩ (by rw [HLL.out]; omega)
    have HST := hid (store_body size29 (z0 := .int .i64 0) (z1 := .slice none 0 0) HT4.out.res rfl rfl)
    have tok : True := trivial
    go_wp2_with (have _t := tok; refine step_store 29 rfl _ _ rfl _ HST.out ?_; clear tok)
    refine bodyPost_ret (ret_body Try.results10 _ _ (q + 1) _ _ rfl (setRow_heap w4 (q + 1) _ _ 29 (0, 0) HT4.out.res)) rfl ⟨?_, ?_⟩
    · rw [HE.out]
      exact ⟨_, rfl, POwn.nil _ _ _⟩
    · exact below_setRow (HB1.out.trans (HB4.out.mono HSZ.out)) (by have := HQR.out; omega) _
  by_cases hm0 : m = 0
  · subst hm0
    obtain rfl : l = [] := List.length_eq_zero_iff.1 HN2.out
    obtain rfl : 0 = L := HLL.out
    have HE : Hid (writeB size b off [] = (size, b, 0)) := writeB_nil HMAY.out ⟨ho0, by omega⟩
    have hC : Calls Try.prog 28 #[.slice a n cap] w4.drew fun e w' => ∃ a5 c5, e = .returned (.slice a5 n c5) ∧ Hid (POwn 58 w1.heap.size w' (.slice a5 n c5) b) ∧ Hid (Below w4.heap.size w4 w') ∧ (w'.cell? ⟨q, 0, none⟩ = some (.int .i64 size) ∧ w'.cell? ⟨q, 1, none⟩ = some (.slice a n cap)) ∧ (w'.cell? ⟨q + 1, 0, none⟩ = some (.int .i64 0) ∧ w'.cell? ⟨q + 1, 1, none⟩ = some (.slice none 0 0) ∧ w'.frozen? ⟨q + 1, 0, none⟩ = false ∧ w'.frozen? ⟨q + 1, 1, none⟩ = false) := by
      have hW := (Below.refl w4.heap.size w4).drew
      refine (pclone_any a b n cap HN.out HZ.out.1 (HR.out.below (HB4.out.trans (hW.mono HB4.out.size))) hm).mono ?_
      rintro e w' ⟨v, rfl, ho, hb⟩
      have hb9 := hW.trans (hb.mono hW.size)
      obtain ⟨c0, c1, d0, d1, f0, f1⟩ := (HT4.out.below hb9).cells
      obtain ⟨a5, c5, hv, _⟩ := ho.row
      rw [HN.out] at hv
      subst hv
      exact ⟨a5, c5, rfl, ho.low (Nat.le_trans HB4.out.size hW.size), hb9, ⟨c0, c1⟩, d0, d1, f0, f1⟩
    have hs0 : w4.drew.cell? ⟨q, 0, none⟩ = some (.int .i64 size) ∧ w4.drew.cell? ⟨q, 1, none⟩ = some (.slice a n cap) := ⟨HT4.out.cells.1, HT4.out.cells.2.1⟩
    have hK : ∀ (W : World) (z v : Value), (W.cell? ⟨q, 0, none⟩ = some (.int .i64 size) ∧ W.cell? ⟨q, 1, none⟩ = some (.slice a n cap)) → (((W.setCell ⟨q + 1, 0, none⟩ z).setCell ⟨q + 1, 1, none⟩ v).cell? ⟨q, 0, none⟩ = some (.int .i64 size) ∧ ((W.setCell ⟨q + 1, 0, none⟩ z).setCell ⟨q + 1, 1, none⟩ v).cell? ⟨q, 1, none⟩ = some (.slice a n cap)) := by
      intro W z v h
      have e : ∀ k, ((W.setCell ⟨q + 1, 0, none⟩ z).setCell ⟨q + 1, 1, none⟩ v).cell? ⟨q, k, none⟩ = W.cell? ⟨q, k, none⟩ := fun k => by
        rw [World.cell?_setCell_far _ _ _ _ (by simp), World.cell?_setCell_far _ _ _ _ (by simp)]
      exact ⟨(e 0).trans h.1, (e 1).trans h.2⟩
    go_wp2_with fail
    go_region_held (fun W => W.cell? ⟨q, 0, none⟩ = some (.int .i64 size) ∧ W.cell? ⟨q, 1, none⟩ = some (.slice a n cap)) (first | assumption | exact hK _ _ _ (by assumption)) (first | (go_at_call 28; refine hC.mono ?_; rintro e w5 ⟨a5, c5, rfl, HO5, HB5, hs5, d0, d1, f0, f1⟩))
    have HRES := hid (res_set2 (HT4.out.below HB5.out).res (.int .i64 size) (.slice a5 n c5))
    have HBE : Hid (Below w.heap.size w ((w5.setCell ⟨q + 1, 0, none⟩ (.int .i64 size)).setCell ⟨q + 1, 1, none⟩ (.slice a5 n c5))) := by
      have h := HB1.out.trans ((HB4.out.trans (HB5.out.mono HB4.out.size)).mono HSZ.out)
      exact (h.setCell (by have := HQR.out; simp; omega) _).setCell (by have := HQR.out; simp; omega) _
    have HOE := hid (HO5.out.set2 HQR.out.2.2 (.int .i64 size) (.slice a5 n c5))
    clear hs5 d0 d1 f0 f1 hC hs0 hK
    go_wp2_with fail
    refine bodyPost_ret (ret_body Try.results10 _ _ (q + 1) _ _ rfl HRES.out) rfl ⟨?_, HBE.out⟩
    rw [HE.out]
    exact ⟨_, rfl, HOE.out.low HSZ.out⟩
  · have hlne : l ≠ [] := by intro e; have := HN2.out; rw [e] at this; simp at this; omega
    have hL0 : 0 < L := by omega
    obtain ⟨to, hto⟩ : ∃ to, off + L = to := ⟨_, rfl⟩
    have hto1 : to ≤ 1099511627776 := by omega
    have HE : Hid (writeB size b off l = (max size to, ahead off b ++ (lay off l ++ behind to b), 0)) := by
      have h := writeB_some (size := size) (b := b) ⟨HMAY.out, HALL.out⟩ (off := off) ⟨ho0, by rw [HLL.out]; exact ho1⟩ hlne
      rw [HLL.out, hto] at h
      exact h
    obtain ⟨hsz0, hsz1, hok⟩ := mayB_iff.1 HMAY.out
    have HBD := hid (bd_of_ok hok (Int.le_refl _) hsz1)
    obtain ⟨nA, hnA⟩ : ∃ k, (ahead off b).length = k := ⟨_, rfl⟩
    obtain ⟨nC, hnC⟩ : ∃ k, (behind to b).length = k := ⟨_, rfl⟩
    have hnA1 := ahead_len off b
    have hnC1 := behind_len to b
    rw [hnA, HN.out] at hnA1
    rw [hnC, HN.out] at hnC1
    have HNA := hid hnA
    have HNC := hid hnC
    have HTO := hid hto
    clear hnA hnC hok hlne
    have hA : ∀ W, (W.cell? ⟨q, 1, none⟩ = some (.slice a n cap) ∧ Below w4.heap.size w4 W) → Calls Try.prog 30 #[.slice a n cap, .int .i64 off] W fun e w' => ∃ a5 c5, e = .returned (.slice a5 nA c5) ∧ Hid (PRow w' a5 (ahead off b)) ∧ (w'.cell? ⟨q, 1, none⟩ = some (.slice a n cap) ∧ Below w4.heap.size w4 w') := by
      intro W hW
      refine (ahead_any a b n cap HN.out (HR.out.below (HB4.out.trans (hW.2.mono HB4.out.size))) hm HBD.out off (by omega) (by omega)).mono ?_
      rintro e w' ⟨v, rfl, ho, hb⟩
      obtain ⟨a5, c5, hv, _, _, hrow, _⟩ := ho.row
      rw [HNA.out] at hv
      subst hv
      exact ⟨a5, c5, rfl, hrow, (HT4.out.below (hW.2.trans (hb.mono hW.2.size))).cells.2.1, hW.2.trans (hb.mono hW.2.size)⟩
    have hLy : ∀ W, (W.cell? ⟨q, 1, none⟩ = some (.slice a n cap) ∧ Below w4.heap.size w4 W) → Calls Try.prog 31 #[.slice a2 m c2, .int .i64 off] W fun e w' => ∃ a6 c6, e = .returned (.slice a6 m c6) ∧ Hid (PRow w' a6 (lay off l)) ∧ Hid (Below W.heap.size W w') ∧ (w'.cell? ⟨q, 1, none⟩ = some (.slice a n cap) ∧ Below w4.heap.size w4 w') := by
      intro W hW
      refine (lay_any a2 l m c2 HN2.out HZ.out.2 (HR2.out.below (HB4.out.trans (hW.2.mono HB4.out.size))) hm2 HALL.out off (by omega) (by omega)).mono ?_
      rintro e w' ⟨v, rfl, ho, hb⟩
      obtain ⟨a5, c5, hv, _, _, hrow, _⟩ := ho.row
      rw [lay_len, HN2.out] at hv
      subst hv
      exact ⟨a5, c5, rfl, hrow, hb, (HT4.out.below (hW.2.trans (hb.mono hW.2.size))).cells.2.1, hW.2.trans (hb.mono hW.2.size)⟩
    have hBh : ∀ W, (W.cell? ⟨q, 1, none⟩ = some (.slice a n cap) ∧ Below w4.heap.size w4 W) → Calls Try.prog 32 #[.slice a n cap, .int .i64 to] W fun e w' => ∃ a7 c7, e = .returned (.slice a7 nC c7) ∧ Hid (PRow w' a7 (behind to b)) ∧ Hid (Below W.heap.size W w') ∧ (w'.cell? ⟨q, 1, none⟩ = some (.slice a n cap) ∧ Below w4.heap.size w4 w') := by
      intro W hW
      refine (behind_any a b n cap HN.out (HR.out.below (HB4.out.trans (hW.2.mono HB4.out.size))) hm HBD.out to (by omega) (by omega)).mono ?_
      rintro e w' ⟨v, rfl, ho, hb⟩
      obtain ⟨a5, c5, hv, _, _, hrow, _⟩ := ho.row
      rw [HNC.out] at hv
      subst hv
      exact ⟨a5, c5, rfl, hrow, hb, (HT4.out.below (hW.2.trans (hb.mono hW.2.size))).cells.2.1, hW.2.trans (hb.mono hW.2.size)⟩
    have hCt : ∀ (W : World) a5 c5 a6 c6 a7 c7, Below w4.heap.size w4 W → PRow W a5 (ahead off b) → PRow W a6 (lay off l) → PRow W a7 (behind to b) → Calls Try.prog 29 #[.slice (some ⟨W.heap.size, 0, none⟩) 3 3] (W.alloc (.cells #[.slice a5 nA c5, .slice a6 m c6, .slice a7 nC c7] 27)) fun e w' => ∃ a8 c8, e = .returned (.slice a8 (nA + (m + nC)) c8) ∧ Hid (POwn 58 w1.heap.size w' (.slice a8 (nA + (m + nC)) c8) (ahead off b ++ (lay off l ++ behind to b))) ∧ Hid (Below w4.heap.size w4 w') ∧ (w'.cell? ⟨q, 1, none⟩ = some (.slice a n cap) ∧ Below w4.heap.size w4 w') := by
      intro W a5 c5 a6 c6 a7 c7 hW h5 h6 h7
      have hal := (Below.refl W.heap.size W).alloc (Nat.le_refl _) (.cells #[.slice a5 nA c5, .slice a6 m c6, .slice a7 nC c7] 27)
      refine (pconcat_any a5 a6 a7 (ahead off b) (lay off l) (behind to b) nA m nC c5 c6 c7 (heap_alloc_new W _) HNA.out (by rw [lay_len, HN2.out]) HNC.out (h5.below hal) (h6.below hal) (h7.below hal) (by omega) (by omega) (by omega) (by omega)).mono ?_
      rintro e w' ⟨v, rfl, ho, hb⟩
      obtain ⟨a8, c8, hv, _⟩ := ho.row
      rw [List.length_append, List.length_append, HNA.out, lay_len, HN2.out, HNC.out] at hv
      subst hv
      have hb9 := (hW.trans (hal.mono hW.size)).trans (hb.mono (Nat.le_trans hW.size hal.size))
      exact ⟨a8, c8, rfl, ho.low (Nat.le_trans HB4.out.size (Nat.le_trans hW.size hal.size)), hb9, (HT4.out.below hb9).cells.2.1, hb9⟩
    have hs0 : w4.drew.cell? ⟨q, 1, none⟩ = some (.slice a n cap) ∧ Below w4.heap.size w4 w4.drew := ⟨HT4.out.cells.2.1, (Below.refl _ _).drew⟩
    have hK : ∀ (W : World) (o : Obj), (W.cell? ⟨q, 1, none⟩ = some (.slice a n cap) ∧ Below w4.heap.size w4 W) → ((W.alloc o).cell? ⟨q, 1, none⟩ = some (.slice a n cap) ∧ Below w4.heap.size w4 (W.alloc o)) := by
      intro W o h
      have hb := h.2.alloc h.2.size o
      exact ⟨(HT4.out.below hb).cells.2.1, hb⟩
    have hmz : ¬ ((m : Int) = 0) := by omega
    have hmz2 : ((m : Int) == 0) = false := by simp; omega
    go_wp2_with fail
    go_region_held (fun W => W.cell? ⟨q, 1, none⟩ = some (.slice a n cap) ∧ Below w4.heap.size w4 W) (first | assumption | exact hK _ _ (by assumption)) (first
      | (go_at_call 30; refine (hA _ ?_).mono ?_; assumption; rintro e w5 ⟨a5, c5, rfl, H5, hs5⟩)
      | (go_at_call 31; refine (hLy _ ?_).mono ?_; assumption; rintro e w6 ⟨a6, c6, rfl, H6, HB6, hs6⟩)
      | (go_at_call 32; refine (hBh _ ?_).mono ?_; assumption; rintro e w7 ⟨a7, c7, rfl, H7, HB7, hs7⟩)
      | (go_at_call 29; refine (hCt w7 a5 c5 a6 c6 a7 c7 hs7.2 ((H5.out.below HB6.out).below HB7.out) (H6.out.below HB7.out) H7.out).mono ?_; rintro e w8 ⟨a8, c8, rfl, H8, HB8, hs8⟩))
    have HT8 := hid (HT4.out.below HB8.out)
    obtain ⟨N8, hN8⟩ : ∃ N8, nA + (m + nC) = N8 := ⟨_, rfl⟩
    rw [hN8] at H8 ⊢
    have e80 := HT8.out.cells.1
    clear hA hLy hBh hCt hs0 hK hs5 hs6 hs7 hs8 hN8
    by_cases hmx : size < to
    · have HMX : Hid (max size to = to) := by show _ = _; omega
      have HST := hid (store_body size29 (z0 := .int .i64 to) (z1 := .slice a8 N8 c8) HT8.out.res rfl rfl)
      have tok : True := trivial
      go_wp2_with (have _t := tok; refine step_store 29 rfl _ _ rfl _ HST.out ?_; clear tok)
      refine bodyPost_ret (ret_body Try.results10 _ _ (q + 1) _ _ rfl (setRow_heap w8 (q + 1) _ _ 29 (0, 0) HT8.out.res)) rfl ⟨?_, ?_⟩
      · rw [HE.out, HMX.out]
        exact ⟨_, rfl, (H8.out.setRow HQR.out.2.2 _).low HSZ.out⟩
      · exact below_setRow (HB1.out.trans ((HB4.out.trans (HB8.out.mono HB4.out.size)).mono HSZ.out)) (by have := HQR.out; omega) _
    · have HMX : Hid (max size to = size) := by show _ = _; omega
      have hmx2 : to ≤ size := by omega
      have HST := hid (store_body size29 (z0 := .int .i64 size) (z1 := .slice a8 N8 c8) HT8.out.res rfl rfl)
      have tok : True := trivial
      go_wp2_with (have _t := tok; refine step_store 29 rfl _ _ rfl _ HST.out ?_; clear tok)
      refine bodyPost_ret (ret_body Try.results10 _ _ (q + 1) _ _ rfl (setRow_heap w8 (q + 1) _ _ 29 (0, 0) HT8.out.res)) rfl ⟨?_, ?_⟩
      · rw [HE.out, HMX.out]
        exact ⟨_, rfl, (H8.out.setRow HQR.out.2.2 _).low HSZ.out⟩
      · exact below_setRow (HB1.out.trans ((HB4.out.trans (HB8.out.mono HB4.out.size)).mono HSZ.out)) (by have := HQR.out; omega) _
end Go.Proofs.Ytccahhehbpahoaa
