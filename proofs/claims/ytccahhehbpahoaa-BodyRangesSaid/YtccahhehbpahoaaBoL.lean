/- The law's own Parts and Made: parts and bodies as the program has them. Condition: at most a hundred thousand parts. -/
import Derived.Test.YtccahhehbpahoaaBoJ
import Derived.Deep.RegionHeldLaw
namespace Go.Proofs.Ytccahhehbpahoaa
open Go.ChangeShapes Go.WideShapes Go.ChangeAt Go.RowKit
set_option maxRecDepth 4000
set_option linter.unusedVariables false
attribute [local go_sem ↓] Go.wp_at_zero Go.wp_at_succ
theorem step_app4 {ops : Array Oper} {op : Oper} {a : Act} {w : World} {K : Act → World → Prop} {Q : Exit → Act → World → Prop} {E : Prop} (t : TypeId) (hgd : op.guard = none) (d s : Operand)
    (ho : op.op = .call { callee := .builtin .append, args := #[d, s], argTypes := #[t, t] }) (x y : Value) (hd : a.eval d = x) (hs : a.eval s = y) (v : Value) (w' : World) (hrun : ∀ ty, (Builtin.append_ #[t, t] ty #[x, y]).run Try.prog w = .ok v w')
    (z : Tmp) (hz : op.dst = some z) (h : K (a.put (some z) v) w') : if Region.wanted op (yielded ops a.tmps) = true then Oper.wp Try.prog op a w K Q else E := by
  have hw : Region.wanted op (yielded ops a.tmps) = true := by simp [Region.wanted, hgd]
  rw [if_pos hw]
  rw [← hz] at h
  unfold Oper.wp
  simp [execOp, ho, resolve, invoke, builtin, hd, hs, hrun, Result.andThen]
  exact h
set_option maxHeartbeats 4000000 in
theorem parts_any {w : World} (a : Option Addr) (l : List Pt) (n cap : Nat) (hn : l.length = n) (hr : PRow w a l) (hm : n ≤ 100000) :
    Calls Try.prog 12 #[.slice a n cap] w fun e w' => ∃ v, e = .returned v ∧ POwn 58 w.heap.size w' v l ∧ Below w.heap.size w w' := by
  have HR := hid hr
  have HN := hid hn
  clear hr hn
  go_enter Try.func12, Try.ntmps12
  go_wp2_with fail
  go_loopg [3, 4] n (fun gk v3 v4 wr => ∃ (i : Nat) (a3 : Option Addr) (c3 : Nat), i + gk = n ∧ v4 = .int .i64 (i : Int) ∧ v3 = .slice a3 i c3 ∧ Hid (POwn 58 w.heap.size wr (.slice a3 i c3) (l.take i)) ∧ Hid (Below w.heap.size w wr))
  case atStart => exact ⟨0, none, 0, by omega, rfl, rfl, hid (POwn.nil _ _ _), hid (Below.refl _ _)⟩
  case round =>
    obtain ⟨i, a3, c3, hik, rfl, rfl, HO, HB⟩ := hrel
    by_cases hlt : i < n
    · have g : (i : Int) < (n : Int) := by omega
      obtain ⟨b, o, rfl, hblt, hpl⟩ := (HR.out.below HB.out).later (i := i) (by rw [HN.out]; exact hlt)
      obtain ⟨x, hx⟩ : ∃ x, l.getD i pt0 = x := ⟨_, rfl⟩
      have HTK : Hid (l.take (i + 1) = l.take i ++ [x]) := by
        show _ = _
        have hi2 : i < l.length := by rw [HN.out]; exact hlt
        rw [List.take_succ_eq_append_getElem hi2, ← hx, List.getD_eq_getElem?_getD, List.getElem?_eq_getElem hi2]
        rfl
      rw [hx] at hpl
      obtain ⟨xo, xl, xc, xa⟩ := x
      have hbd := (Below.refl wr.heap.size wr).drew
      have hs0 := hpl _ hbd
      obtain ⟨v', w', hrun, ho', hb', _, hs'⟩ := (HO.out.below hbd).put kind27 ⟨xo, xl, xc, xa⟩ (by rw [List.length_take]; omega) (Nat.le_trans HB.out.size hbd.size) wr.heap.size rfl
      obtain ⟨a6, c6, hv6, _⟩ := ho'.row
      rw [← HTK.out, List.length_take, Nat.min_eq_left (by rw [HN.out]; omega)] at hv6
      subst hv6
      have HO' : Hid (POwn 58 w.heap.size w' (.slice a6 (i + 1) c6) (l.take (i + 1))) := by show POwn _ _ _ _ _; rw [HTK.out]; exact ho'
      have HB' := hid (HB.out.trans ((hbd.mono HB.out.size).trans hb'))
      have hal : ∀ o', PartAt (wr.drew.alloc o') b (o + i * 4) ⟨xo, xl, xc, xa⟩ := fun o' => hpl _ (hbd.alloc (Nat.le_refl _) o')
      have hbw : Below w.heap.size w w' := HB'.out
      have hlast : PartAt w' b (o + i * 4) ⟨xo, xl, xc, xa⟩ := by
        obtain ⟨b8, o8, ha8, _, hp8⟩ := (HR.out.below hbw).part (i := i) (by rw [HN.out]; exact hlt)
        simp only [Option.some.injEq, Addr.mk.injEq, and_true] at ha8
        obtain ⟨rfl, rfl⟩ := ha8
        rw [hx] at hp8
        exact hp8
      have HRUN := hid hrun
      have HAL := hid hal
      have HLA := hid hlast
      simp only at hrun
      clear hx hpl hblt ho' hb' hbd hs' hal hlast hbw hrun
      unfold PartAt at hs0
      simp only at hs0
      go_wp2_with fail
      go_region_held_law (fun W => W.cell? ⟨b, o + i * 4, none⟩ = some (.int .i64 xo) ∧ W.cell? ⟨b, o + i * 4 + 1, none⟩ = some (.int .i64 xl) ∧ W.cell? ⟨b, o + i * 4 + 2, none⟩ = some (.int .i64 xc) ∧ W.cell? ⟨b, o + i * 4 + 3, none⟩ = some (.int .i64 xa)) (first | assumption | exact HAL.out _ | exact HLA.out) (first | refine step_app4 27 rfl _ _ rfl _ _ rfl rfl _ w' HRUN.out 34 rfl ?_)
      clear hs0
      go_wp2_with fail
      go_roundg (gk - 1)
      case measure => omega
      case rel => exact ⟨i + 1, a6, c6, by omega, by go_num, rfl, HO', HB'⟩
    · have g : ¬ (i : Int) < (n : Int) := by omega
      obtain rfl : i = n := by omega
      have HTT : Hid (l.take i = l) := List.take_of_length_le (by rw [HN.out]; omega)
      go_wp2_with fail
      go_ret
      exact ⟨_, rfl, by have := HO.out; rw [HTT.out] at this; exact this, HB.out⟩
set_option maxHeartbeats 2000000 in
theorem made_any {w : World} (size : Int) (a : Option Addr) (b : List Pt) (n cap : Nat) (hn : b.length = n) (hr : PRow w a b) (hm : n ≤ 100000) :
    Calls Try.prog 11 #[.agg #[.int .i64 size, .slice a n cap]] w fun e w' => ∃ a' c', e = .returned (.agg #[.int .i64 size, .slice a' n c']) ∧ POwn 58 w.heap.size w' (.slice a' n c') b ∧ Below w.heap.size w w' := by
  have hb1 := ((Below.refl w.heap.size w).alloc (Nat.le_refl _) (.cells #[.int .i64 size, .slice a n cap] 24)).alloc (by simp) (.cells #[.int .i64 0, .slice none 0 0] 29)
  have HARG : Hid (((w.alloc (.cells #[.int .i64 size, .slice a n cap] 24)).alloc (.cells #[.int .i64 0, .slice none 0 0] 29)).heap[w.heap.size]? = some (.cells #[.int .i64 size, .slice a n cap] 24 (0, 0))) := by
    show _ = _
    rw [heap_alloc_old _ _ (by simp), heap_alloc_new]
  have HRES : Hid (((w.alloc (.cells #[.int .i64 size, .slice a n cap] 24)).alloc (.cells #[.int .i64 0, .slice none 0 0] 29)).heap[w.heap.size + 1]? = some (.cells #[.int .i64 0, .slice none 0 0] 29 (0, 0))) := by
    have := heap_alloc_new (w.alloc (.cells #[.int .i64 size, .slice a n cap] 24)) (.cells #[.int .i64 0, .slice none 0 0] 29)
    rw [show (w.alloc (.cells #[.int .i64 size, .slice a n cap] 24)).heap.size = w.heap.size + 1 by simp] at this
    exact this
  have HB1 := hid hb1
  have HR := hid (hr.below hb1)
  have HN := hid hn
  clear hb1 hr hn
  go_enter Try.func11, Try.ntmps11
  go_wp2_with fail
  generalize (w.alloc (.cells #[.int .i64 size, .slice a n cap] 24)).alloc (.cells #[.int .i64 0, .slice none 0 0] 29) = w1 at *
  obtain ⟨q, hq⟩ : ∃ q, w.heap.size = q := ⟨_, rfl⟩
  have HSZ : Hid (w.heap.size ≤ w1.heap.size) := HB1.out.size
  rw [hq] at HARG HRES ⊢
  have HQR : Hid (w.heap.size ≤ q ∧ q < w1.heap.size ∧ q + 1 < w1.heap.size) := ⟨by omega, by have := lt_of_some HARG.out; omega, by have := lt_of_some HRES.out; omega⟩
  clear hq
  have hcell : ∀ W, Below w1.heap.size w1 W → (W.cell? ⟨q, 0, none⟩ = some (.int .i64 size) ∧ W.cell? ⟨q, 1, none⟩ = some (.slice a n cap)) := fun W hW => by
    have h := (hW.block q (lt_of_some HARG.out)).trans HARG.out
    exact ⟨by rw [cell_of_row W q 0 _ 24 (0, 0) h]; rfl, by rw [cell_of_row W q 1 _ 24 (0, 0) h]; rfl⟩
  have hC : Calls Try.prog 12 #[.slice a n cap] w1.drew fun e w' => ∃ a5 c5, e = .returned (.slice a5 n c5) ∧ Hid (POwn 58 w1.heap.size w' (.slice a5 n c5) b) ∧ Hid (Below w1.heap.size w1 w') ∧ (w'.cell? ⟨q, 0, none⟩ = some (.int .i64 size) ∧ w'.cell? ⟨q, 1, none⟩ = some (.slice a n cap)) ∧ (w'.cell? ⟨q + 1, 0, none⟩ = some (.int .i64 0) ∧ w'.cell? ⟨q + 1, 1, none⟩ = some (.slice none 0 0) ∧ w'.frozen? ⟨q + 1, 0, none⟩ = false ∧ w'.frozen? ⟨q + 1, 1, none⟩ = false) := by
    have hW := (Below.refl w1.heap.size w1).drew
    refine (parts_any a b n cap HN.out (HR.out.below hW) hm).mono ?_
    rintro e w' ⟨v, rfl, ho, hb⟩
    have hb9 := hW.trans (hb.mono hW.size)
    have h := (hb9.block (q + 1) (lt_of_some HRES.out)).trans HRES.out
    obtain ⟨a5, c5, hv, _⟩ := ho.row
    rw [HN.out] at hv
    subst hv
    exact ⟨a5, c5, rfl, ho.low hW.size, hb9, hcell _ hb9, by rw [cell_of_row w' _ 0 _ 29 (0, 0) h]; rfl, by rw [cell_of_row w' _ 1 _ 29 (0, 0) h]; rfl, frozen_of_row w' _ 0 _ 29 h, frozen_of_row w' _ 1 _ 29 h⟩
  have hs0 := hcell w1.drew ((Below.refl _ _).drew)
  have hK : ∀ (W : World) (z v : Value), (W.cell? ⟨q, 0, none⟩ = some (.int .i64 size) ∧ W.cell? ⟨q, 1, none⟩ = some (.slice a n cap)) → (((W.setCell ⟨q + 1, 0, none⟩ z).setCell ⟨q + 1, 1, none⟩ v).cell? ⟨q, 0, none⟩ = some (.int .i64 size) ∧ ((W.setCell ⟨q + 1, 0, none⟩ z).setCell ⟨q + 1, 1, none⟩ v).cell? ⟨q, 1, none⟩ = some (.slice a n cap)) := by
    intro W z v h
    have e : ∀ k, ((W.setCell ⟨q + 1, 0, none⟩ z).setCell ⟨q + 1, 1, none⟩ v).cell? ⟨q, k, none⟩ = W.cell? ⟨q, k, none⟩ := fun k => by
      rw [World.cell?_setCell_far _ _ _ _ (by simp), World.cell?_setCell_far _ _ _ _ (by simp)]
    exact ⟨(e 0).trans h.1, (e 1).trans h.2⟩
  clear hcell
  go_region_held (fun W => W.cell? ⟨q, 0, none⟩ = some (.int .i64 size) ∧ W.cell? ⟨q, 1, none⟩ = some (.slice a n cap)) (first | assumption | exact hK _ _ _ (by assumption)) (first | (go_at_call 12; refine hC.mono ?_; rintro e w5 ⟨a5, c5, rfl, HO5, HB5, hs5, d0, d1, f0, f1⟩))
  have HRS := hid (res_set2 ((HB5.out.block (q + 1) (lt_of_some HRES.out)).trans HRES.out) (.int .i64 size) (.slice a5 n c5))
  have HBE : Hid (Below w.heap.size w ((w5.setCell ⟨q + 1, 0, none⟩ (.int .i64 size)).setCell ⟨q + 1, 1, none⟩ (.slice a5 n c5))) := by
    have h := HB1.out.trans (HB5.out.mono HSZ.out)
    exact (h.setCell (by have := HQR.out; simp; omega) _).setCell (by have := HQR.out; simp; omega) _
  have HOE := hid (HO5.out.set2 HQR.out.2.2 (.int .i64 size) (.slice a5 n c5))
  clear hs5 d0 d1 f0 f1 hC hs0 hK
  go_wp2_with fail
  refine bodyPost_ret (v := .agg #[.int .i64 size, .slice a5 n c5]) (results_cell_row (ty := 29) (p := 2) Try.results11 _ _ (q + 1) 29 _ (0, 0) _ rfl HRS.out Try.underlying29 rfl size29) rfl ⟨_, _, rfl, HOE.out.low HSZ.out, HBE.out⟩
end Go.Proofs.Ytccahhehbpahoaa
