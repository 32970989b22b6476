/- What keep of a store does. Condition: a new number, a new text of 1 to 64 bytes. -/
import Derived.Test.YtccahhehbpahoaaCkP
import Derived.Deep.RegionHeldLaw
namespace Go.Proofs.Ytccahhehbpahoaa
open Go.ChangeShapes Go.WideShapes Go.ChangeAt Go.RowKit
open Go.Maps (keyOf_int_mk)
open Crc (nx nx_lt sum_any)
set_option maxRecDepth 4000
set_option linter.unusedVariables false
attribute [local go_sem ↓] Go.wp_at_zero Go.wp_at_succ
theorem Row.drew {w : World} {a : Option Addr} {l : List Nat} (h : Row w a l) : Row w.drew a l := h
theorem step_app3 {ops : Array Oper} {op : Oper} {a : Act} {w : World} {K : Act → World → Prop} {Q : Exit → Act → World → Prop} {E : Prop} (t : TypeId) (hgd : op.guard = none) (d s : Operand)
    (ho : op.op = .call { callee := .builtin .append, args := #[d, s], argTypes := #[t, t] }) (x y : Value) (hd : a.eval d = x) (hs : a.eval s = y) (v : Value) (w' : World) (hrun : (Builtin.append_ #[t, t] op.type #[x, y]).run Try.prog w = .ok v w')
    (z : Tmp) (hz : op.dst = some z) (h : K (a.put (some z) v) w') : if Region.wanted op (yielded ops a.tmps) = true then Oper.wp Try.prog op a w K Q else E := by
  have hw : Region.wanted op (yielded ops a.tmps) = true := by simp [Region.wanted, hgd]
  have h' : K (a.put op.dst v) w' := by rw [hz]; exact h
  rw [if_pos hw]
  unfold Oper.wp
  simp [execOp, ho, resolve, invoke, builtin, hd, hs, hrun, Result.andThen]
  exact h'
theorem Parts.last {base : Nat} {w : World} {q n : Nat} {psA psB : Ps} {last bp bn : Nat} {f g : Int → Option Value} (h : Parts base w q n psA psB last bp bn f g) (M : Nat) :
    Parts base (w.setCell ⟨q, 2, none⟩ (.int .i64 (M : Int))) q n psA psB M bp bn f g ∧ Chg q base w (w.setCell ⟨q, 2, none⟩ (.int .i64 (M : Int))) := by
  have hs : (w.setCell ⟨q, 2, none⟩ (.int .i64 (M : Int))).heap[q]? = some (.cells #[.map (some bp), .map (some bn), .int .i64 (M : Int)] 81 (0, 0)) := by
    rw [heap_setCell_same _ _ _ _ _ _ h.at_]; rfl
  have ho : ∀ k, k ≠ q → (w.setCell ⟨q, 2, none⟩ (.int .i64 (M : Int))).heap[k]? = w.heap[k]? := fun k hk => Below.heap_setCell _ _ _ _ hk
  obtain ⟨esp, cp, hmp⟩ := h.mp.is_map
  obtain ⟨esn, cn, hmn⟩ := h.mn.is_map
  have np : bp ≠ q := fun e => map_ne hmp h.at_ e.symm
  have nn : bn ≠ q := fun e => map_ne hmn h.at_ e.symm
  have hk : ∀ (k : Nat) (cs : Array Value) (t : TypeId) (m : Nat × Nat), w.heap[k]? = some (Obj.cells cs t m) → t ≠ 81 → (w.setCell ⟨q, 2, none⟩ (.int .i64 (M : Int))).heap[k]? = some (Obj.cells cs t m) := fun k cs t m h1 ht => by
    rw [ho k (fun e => by subst e; rw [h.at_] at h1; injection h1 with h1; injection h1 with _ e2; exact ht e2.symm)]
    exact h1
  refine ⟨⟨hs, h.lp, h.ln, h.ne, h.mp.keep (ho bp np), h.mn.keep (ho bn nn), h.pc.keep fun k cs m _ h1 => hk k cs 5 m h1 (by decide), h.nm.keep fun k cs m _ h1 => hk k cs 3 m h1 (by decide)⟩, ?_⟩
  have g := grownBy_setCell' w q (.int .i64 (M : Int))
  exact ⟨rfl, rfl, rfl, by simp [World.setCell], fun k o h1 _ hq => (ho k hq).trans h1, fun k cs t m h1 h5 _ => hk k cs t m h1 h5⟩
/-- No byte lies in a store's own cells. -/
theorem Row.but_q {w w' : World} {q : Nat} {P N : Option Nat} {z : Int} {a : Option Addr} {l : List Nat} (h : Row w a l) (hq : w.heap[q]? = some (.cells #[.map P, .map N, .int .i64 z] 81 (0, 0))) (hs : w.heap.size ≤ w'.heap.size) (hk : ∀ k, k < w.heap.size → k ≠ q → w'.heap[k]? = w.heap[k]?) : Row w' a l := by
  refine ⟨h.1, ?_⟩
  rcases h.2 with h2 | ⟨b, off, ha, hlt, hc⟩
  · exact .inl h2
  · by_cases h0 : l = []
    · exact .inl h0
    · have hp : 0 < l.length := List.length_pos_iff.2 h0
      have hne : b ≠ q := by
        intro e
        subst e
        have := hc 0 hp
        rw [cell_of_row w b _ _ 81 (0, 0) hq] at this
        match hoff : off + 0 with
        | 0 => rw [hoff] at this; simp at this
        | 1 => rw [hoff] at this; simp at this
        | 2 => rw [hoff] at this; simp at this
        | k + 3 => rw [hoff] at this; simp at this
      refine .inr ⟨b, off, ha, Nat.lt_of_lt_of_le hlt hs, fun i hi => ?_⟩
      rw [← hc i hi]
      simp only [World.cell?, hk b hlt hne]
theorem eq_map_some (w : World) (b : Nat) : (binOp .eql 78 (.map (some b)) (.map none)).run Try.prog w = .ok (.bool false) w := by kernel_rfl
theorem eq_map_none (w : World) : (binOp .eql 78 (.map none) (.map none)).run Try.prog w = .ok (.bool true) w := by kernel_rfl
set_option maxHeartbeats 400000 in
theorem keep_made {base : Nat} {w : World} {q n bp bn : Nat} {s : St} {f g : Int → Option Value} (hpt : Parts base w q n s.ps s.ps s.last bp bn f g) (hok : Ok s.ps s.last) (id : Nat) (h0 : 1 ≤ id) (hi : id ≤ 9000000000000000000) (hls : s.last ≤ 9000000000000000000) (ad : Addr) (l : List Nat) (m cap : Nat) (hm : l.length = m) (hrw : Row w (some ad) l) (hl1 : 1 ≤ m) (hl : m ≤ 64) (hn : n ≤ 999999) (hfew : s.ps.length ≤ n)
    (hno : byId s.ps (id : Int) = none) (ht : byText s.ps l = none) (hb0 : base ≤ w.heap.size) :
    Calls Try.prog 41 #[.pointer (some ⟨q, 0, none⟩), .int .i64 (id : Int), .slice (some ad) m cap] w fun e w' => e = .returned (.tuple #[]) ∧ CkAt base w' q (n + 2) ⟨s.ps ++ [(id, l)], max s.last id⟩ ∧ Chg q base w w' := by
  have HM := hid hm
  have HNE : Hid (l ≠ []) := by intro e; rw [e] at hm; simp at hm; omega
  have HL9 : Hid (l.length ≤ 900000000) := by show _ ≤ _; omega
  have HID : Hid (id < 9223372036854775808) := by show _ < _; omega
  have HNO := hid hno
  have HLT := hid hrw.1
  have HT := hid ht
  have HN : Hid (n ≤ 1000000) := by show _ ≤ _; omega
  have HOK := hid hok
  have HA := hid (And.intro h0 (And.intro hi (And.intro hls (And.intro hl1 (And.intro hl (And.intro hn hfew))))))
  have hch : Chg q base w w := Chg.refl _ _ _
  have heq := fun w => eq_map_some w bp
  clear hm hno ht hok h0 hi hls hl1 hl hn hfew
  go_enter Try.func41, Try.ntmps41

  have HPT := hid hpt
  have HRW := hid hrw
  have HCH := hid hch
  have HB0 := hid hb0
  have hc0 := hpt.cells.1
  clear hpt hrw hch hb0
  go_wp2_with fail
  have hsum := sum_any (some ad) l cap w HRW.out (by have := HM.out; have := HA.out; omega)
  rw [HM.out] at hsum
  refine hsum.mono ?_
  rintro e w2 ⟨rfl, hb2⟩
  clear hsum
  have hpt2 := HPT.out.below hb2
  have hrw2 := HRW.out.below hb2
  have HCH2 := hid (HCH.out.trans (Chg.of_below hb2))
  have HB2 := hid (Nat.le_trans HB0.out hb2.size)
  have hc2 := hpt2.cells.1
  have HPT2 := hid hpt2
  have HRW2 := hid hrw2
  clear hpt2 hrw2 hb2 HPT HRW HCH HB0 hc0
  generalize hc : nx 0 l = c at *
  have HC := hid hc
  clear hc
  go_wp2_with fail
  have hz2 : w2.drew.cell? ⟨q, 0, none⟩ = some (.map (some bp)) := hc2
  go_region_held (fun W => W.cell? ⟨q, 0, none⟩ = some (.map (some bp))) (first | assumption) (first | (go_at_call 49; refine (bclone_some (w := w2.drew) ad l m cap HM.out HRW2.out.drew HNE.out HL9.out).mono ?_; rintro e w3 ⟨g3, c3, rfl, ho3, hb3⟩; obtain ⟨w4, hrun4, hp4, hc4⟩ := Parts.piece ((HPT2.out.below (Below.refl _ w2).drew).below hb3) id l HID.out HNO.out HN.out (.slice (some ⟨g3, 0, none⟩) m c3) ⟨g3, c3, by rw [HM.out], by rw [HM.out]; exact owns_up ho3 HB2.out⟩; have hz3 := (HPT2.out.below ((Below.refl _ w2).drew.trans (hb3.mono (Nat.le_refl _)))).cells.1; have hz4 := hp4.cells.1; have HP4 := hid hp4; have HC4 := hid (((Chg.of_below (q := q) (base := base) (Below.refl _ w2).drew).trans (Chg.of_below hb3)).trans hc4); clear ho3 hb3 hp4 hc4))
  obtain ⟨v, v', w6, w7, e1, e2, e3, e4, z1, z6, z7, hp7, hc7⟩ := HP4.out.number id l HID.out (by have := HA.out; omega) (by have := HA.out; omega) (Nat.le_trans HB2.out HC4.out.size)
  rw [HC.out] at e1 e2 e4 hp7
  have HC7 := hid ((HCH2.out.trans HC4.out).trans hc7)
  have HP7 := hid hp7
  have hz40 : w4.drew.cell? ⟨q, 1, none⟩ = some (.map (some bn)) := HP4.out.cells.2.1
  have HE3 := hid e3
  have e2' : (Instr.lookup 79 (.map (some bn)) (.int .u32 (c : Int)) false).run Try.prog (w4.alloc (.cells #[.int .i64 (id : Int)] 3)).drew = .ok v (w4.alloc (.cells #[.int .i64 (id : Int)] 3)).drew := e2
  have z1' : (w4.alloc (.cells #[.int .i64 (id : Int)] 3)).drew.cell? ⟨q, 1, none⟩ = some (.map (some bn)) := z1
  clear hc7 hp7 e3 hz2 hc2 hz3 hz4 hrun4 heq HCH2 HB2 HPT2 HRW2 HC4
  go_wp2_with fail
  go_region_held_law (fun W => W.cell? ⟨q, 1, none⟩ = some (.map (some bn))) (first | assumption) (refine step_app3 42 rfl _ _ rfl _ _ rfl rfl _ w6 HE3.out 42 rfl ?_)
  all_goals
    have hzl := HP7.out.cells.2.2.1
    have hzf := HP7.out.cells.2.2.2 2
    clear e1 e2 e4 e2' z1 z6 z7 z1' hz40
    go_wp2_with fail
    · go_end0
      have hM : max s.last id = id := by omega
      obtain ⟨hp8, hc8⟩ := HP7.out.last id
      rw [hM]
      have hA := HA.out
      refine ⟨rfl, ⟨?_, ?_, _, _, hp8.at_, .inr ⟨bp, bn, _, _, rfl, rfl, hp8.lp, hp8.ln, hp8.ne, hp8.mp, hp8.mn, hp8.pc, hp8.nm⟩⟩, HC7.out.trans hc8⟩
      · have := HOK.out.add hA.1 (by rw [HM.out]; exact hA.2.2.2.1) (by rw [HM.out]; exact hA.2.2.2.2.1) HLT.out HNO.out HT.out
        rw [hM] at this
        exact this
      · simp only [List.length_append, List.length_cons, List.length_nil]
        omega
    · go_end0
      have hM : max s.last id = s.last := by omega
      obtain ⟨hp8, hc8⟩ := HP7.out.last s.last
      rw [hM]
      have hA := HA.out
      refine ⟨rfl, ⟨?_, ?_, _, _, hp8.at_, .inr ⟨bp, bn, _, _, rfl, rfl, hp8.lp, hp8.ln, hp8.ne, hp8.mp, hp8.mn, hp8.pc, hp8.nm⟩⟩, HC7.out.trans hc8⟩
      · have := HOK.out.add hA.1 (by rw [HM.out]; exact hA.2.2.2.1) (by rw [HM.out]; exact hA.2.2.2.2.1) HLT.out HNO.out HT.out
        rw [hM] at this
        exact this
      · simp only [List.length_append, List.length_cons, List.length_nil]
        omega
theorem chg_two (w : World) (q base : Nat) (v0 v1 v2 : Value) (h : w.heap[q]? = some (.cells #[v0, v1, v2] 81 (0, 0))) (u0 u1 : Value) (hb : base ≤ w.heap.size) :
    ((((w.setCell ⟨q, 0, none⟩ u0).setCell ⟨q, 1, none⟩ u1).alloc (.map #[] 0)).alloc (.map #[] 0)).heap[q]? = some (.cells #[u0, u1, v2] 81 (0, 0)) ∧ Below w.heap.size ((w.setCell ⟨q, 0, none⟩ u0).setCell ⟨q, 1, none⟩ u1) ((((w.setCell ⟨q, 0, none⟩ u0).setCell ⟨q, 1, none⟩ u1).alloc (.map #[] 0)).alloc (.map #[] 0)) ∧
    Chg q base w ((((w.setCell ⟨q, 0, none⟩ u0).setCell ⟨q, 1, none⟩ u1).alloc (.map #[] 0)).alloc (.map #[] 0)) ∧
    MapIs ((((w.setCell ⟨q, 0, none⟩ u0).setCell ⟨q, 1, none⟩ u1).alloc (.map #[] 0)).alloc (.map #[] 0)) 3 .i64 w.heap.size 0 (fun _ => none) ∧
    MapIs ((((w.setCell ⟨q, 0, none⟩ u0).setCell ⟨q, 1, none⟩ u1).alloc (.map #[] 0)).alloc (.map #[] 0)) 94 .u32 (w.heap.size + 1) 0 (fun _ => none) ∧
    ((((w.setCell ⟨q, 0, none⟩ u0).setCell ⟨q, 1, none⟩ u1).alloc (.map #[] 0)).alloc (.map #[] 0)).heap.size = w.heap.size + 2 ∧
    ∀ k, k < w.heap.size → k ≠ q → ((((w.setCell ⟨q, 0, none⟩ u0).setCell ⟨q, 1, none⟩ u1).alloc (.map #[] 0)).alloc (.map #[] 0)).heap[k]? = w.heap[k]? := by
  have h3 : (w.setCell ⟨q, 0, none⟩ u0).heap[q]? = some (.cells #[u0, v1, v2] 81 (0, 0)) := by rw [heap_setCell_same _ _ _ _ _ _ h]; rfl
  have h4 : ((w.setCell ⟨q, 0, none⟩ u0).setCell ⟨q, 1, none⟩ u1).heap[q]? = some (.cells #[u0, u1, v2] 81 (0, 0)) := by rw [heap_setCell_same _ _ _ _ _ _ h3]; rfl
  have ho : ∀ k, k ≠ q → ((w.setCell ⟨q, 0, none⟩ u0).setCell ⟨q, 1, none⟩ u1).heap[k]? = w.heap[k]? := fun k hk => (Below.heap_setCell _ _ _ _ hk).trans (Below.heap_setCell _ _ _ _ hk)
  have hz : ((w.setCell ⟨q, 0, none⟩ u0).setCell ⟨q, 1, none⟩ u1).heap.size = w.heap.size := by
    have e1 := grownBy_setCell' w q u0
    simp [World.setCell]
  have XX : ((w.setCell ⟨q, 0, none⟩ u0).setCell ⟨q, 1, none⟩ u1).os = w.os ∧ ((w.setCell ⟨q, 0, none⟩ u0).setCell ⟨q, 1, none⟩ u1).tape = w.tape ∧ ((w.setCell ⟨q, 0, none⟩ u0).setCell ⟨q, 1, none⟩ u1).output = w.output := ⟨rfl, rfl, rfl⟩
  generalize ((w.setCell ⟨q, 0, none⟩ u0).setCell ⟨q, 1, none⟩ u1) = W at *
  have hb2 : Below W.heap.size W ((W.alloc (.map #[] 0)).alloc (.map #[] 0)) := ((Below.refl _ W).alloc (Nat.le_refl _) _).alloc (by simp) _
  rw [hz] at hb2
  have m1 : MapIs ((W.alloc (.map #[] 0)).alloc (.map #[] 0)) 3 .i64 W.heap.size 0 (fun _ => none) := (MapIs.made W 3 .i64).keep (((Below.refl _ (W.alloc (.map #[] 0))).alloc (Nat.le_refl _) (.map #[] 0)).block W.heap.size (by simp))
  have m2 := MapIs.made (W.alloc (.map #[] 0)) 94 .u32
  have e3 : (W.alloc (.map #[] 0)).heap.size = w.heap.size + 1 := by simp [hz]
  rw [e3] at m2
  rw [hz] at m1
  refine ⟨(hb2.block q (by rw [← hz]; exact lt_of_some h4)).trans h4, hb2, ⟨XX.1, XX.2.1, XX.2.2, by simp [hz]; omega, fun k o hk hlt hq => (hb2.block k (lt_of_some hk)).trans ((ho k hq).trans hk), fun k cs t m hk h5 h3 => ?_⟩, m1, m2, by simp [hz], fun k hk hq => (hb2.block k hk).trans (ho k hq)⟩
  rw [hb2.block k (lt_of_some hk)]
  rw [ho k (fun e => by subst e; rw [h] at hk; injection hk with hk; injection hk with _ e2; exact h5 e2.symm)]
  exact hk
set_option maxHeartbeats 400000 in
theorem keep_nil {base : Nat} {w : World} {q n : Nat} {s : St} (hq : w.heap[q]? = some (.cells #[.map none, .map none, .int .i64 (s.last : Int)] 81 (0, 0))) (hps : s.ps = []) (hok : Ok s.ps s.last) (id : Nat) (h0 : 1 ≤ id) (hi : id ≤ 9000000000000000000) (hls : s.last ≤ 9000000000000000000) (ad : Addr) (l : List Nat) (m cap : Nat) (hm : l.length = m) (hrw : Row w (some ad) l) (hl1 : 1 ≤ m) (hl : m ≤ 64) (hn : n ≤ 999999) (hfew : s.ps.length ≤ n)
    (hno : byId s.ps (id : Int) = none) (ht : byText s.ps l = none) (hb0 : base ≤ w.heap.size) :
    Calls Try.prog 41 #[.pointer (some ⟨q, 0, none⟩), .int .i64 (id : Int), .slice (some ad) m cap] w fun e w' => e = .returned (.tuple #[]) ∧ CkAt base w' q (n + 2) ⟨s.ps ++ [(id, l)], max s.last id⟩ ∧ Chg q base w w' := by
  have HM := hid hm
  have HNE : Hid (l ≠ []) := by intro e; rw [e] at hm; simp at hm; omega
  have HL9 : Hid (l.length ≤ 900000000) := by show _ ≤ _; omega
  have HID : Hid (id < 9223372036854775808) := by show _ < _; omega
  have HNO := hid hno
  have HLT := hid hrw.1
  have HT := hid ht
  have HN : Hid (n ≤ 1000000) := by show _ ≤ _; omega
  have HOK := hid hok
  have HA := hid (And.intro h0 (And.intro hi (And.intro hls (And.intro hl1 (And.intro hl (And.intro hn hfew))))))
  have heq := fun w => eq_map_none w
  have hrun := fun (t : TypeId) (w : World) => run_makeMap (P := Try.prog) t w
  clear hm hno ht hok h0 hi hls hl1 hl hn hfew
  have c0 : w.cell? ⟨q, 0, none⟩ = some (.map none) := by rw [cell_of_row w q 0 _ 81 (0, 0) hq]; rfl
  have c1 : w.cell? ⟨q, 1, none⟩ = some (.map none) := by rw [cell_of_row w q 1 _ 81 (0, 0) hq]; rfl
  have cf : ∀ i, w.frozen? ⟨q, i, none⟩ = false := fun i => frozen_of_row w q i _ 81 hq
  have cf0 := cf 0
  have cf1 := cf 1
  have hqlt := lt_of_some hq
  have HQ := hid hq
  have HPS := hid hps
  have HRW0 := hid hrw
  have HB00 := hid hb0
  clear hq hps hrw hb0 cf
  go_enter Try.func41, Try.ntmps41
  go_wp2_with fail
  obtain ⟨t1, t2, hch, t4, t5, t6, t7⟩ := chg_two w q base _ _ _ HQ.out (.map (some w.heap.size)) (.map (some (w.heap.size + 1))) HB00.out
  have hpt : Parts base _ q n s.ps s.ps s.last w.heap.size (w.heap.size + 1) (fun _ => none) (fun _ => none) := ⟨t1, HB00.out, Nat.le_succ_of_le HB00.out, by omega, t4.mono (Nat.zero_le _), t5.mono (Nat.zero_le _), by rw [HPS.out]; exact fun a => ⟨fun _ => rfl, fun b hb => by simp [byId] at hb⟩, by rw [HPS.out]; exact ⟨fun c _ => rfl, fun c v hv => by simp at hv, fun c c' v v' _ hv => by simp at hv⟩⟩
  have hrw := HRW0.out.but_q HQ.out hch.size t7
  have hb0 : base ≤ _ := Nat.le_trans HB00.out hch.size
  generalize ((((w.setCell ⟨q, 0, none⟩ (.map (some w.heap.size))).setCell ⟨q, 1, none⟩ (.map (some (w.heap.size + 1)))).alloc (.map #[] 0)).alloc (.map #[] 0)) = W0 at *
  generalize w.heap.size = bp at *
  obtain ⟨bn, hbn⟩ : ∃ bn, bp + 1 = bn := ⟨_, rfl⟩
  rw [hbn] at hpt ⊢
  clear hbn t1 t2 t4 t5 t6 t7 c0 c1 cf0 cf1 hqlt HQ HRW0
  have HPT := hid hpt
  have HRW := hid hrw
  have HCH := hid hch
  have HB0 := hid hb0
  have hc0 := hpt.cells.1
  clear hpt hrw hch hb0
  have hsum := sum_any (some ad) l cap W0 HRW.out (by have := HM.out; have := HA.out; omega)
  rw [HM.out] at hsum
  refine hsum.mono ?_
  rintro e w2 ⟨rfl, hb2⟩
  clear hsum
  have hpt2 := HPT.out.below hb2
  have hrw2 := HRW.out.below hb2
  have HCH2 := hid (HCH.out.trans (Chg.of_below hb2))
  have HB2 := hid (Nat.le_trans HB0.out hb2.size)
  have hc2 := hpt2.cells.1
  have HPT2 := hid hpt2
  have HRW2 := hid hrw2
  clear hpt2 hrw2 hb2 HPT HRW HCH HB0 hc0
  generalize hc : nx 0 l = c at *
  have HC := hid hc
  clear hc
  go_wp2_with fail
  have hz2 : w2.drew.cell? ⟨q, 0, none⟩ = some (.map (some bp)) := hc2
  go_region_held (fun W => W.cell? ⟨q, 0, none⟩ = some (.map (some bp))) (first | assumption) (first | (go_at_call 49; refine (bclone_some (w := w2.drew) ad l m cap HM.out HRW2.out.drew HNE.out HL9.out).mono ?_; rintro e w3 ⟨g3, c3, rfl, ho3, hb3⟩; obtain ⟨w4, hrun4, hp4, hc4⟩ := Parts.piece ((HPT2.out.below (Below.refl _ w2).drew).below hb3) id l HID.out HNO.out HN.out (.slice (some ⟨g3, 0, none⟩) m c3) ⟨g3, c3, by rw [HM.out], by rw [HM.out]; exact owns_up ho3 HB2.out⟩; have hz3 := (HPT2.out.below ((Below.refl _ w2).drew.trans (hb3.mono (Nat.le_refl _)))).cells.1; have hz4 := hp4.cells.1; have HP4 := hid hp4; have HC4 := hid (((Chg.of_below (q := q) (base := base) (Below.refl _ w2).drew).trans (Chg.of_below hb3)).trans hc4); clear ho3 hb3 hp4 hc4))
  obtain ⟨v, v', w6, w7, e1, e2, e3, e4, z1, z6, z7, hp7, hc7⟩ := HP4.out.number id l HID.out (by have := HA.out; omega) (by have := HA.out; omega) (Nat.le_trans HB2.out HC4.out.size)
  rw [HC.out] at e1 e2 e4 hp7
  have HC7 := hid ((HCH2.out.trans HC4.out).trans hc7)
  have HP7 := hid hp7
  have hz40 : w4.drew.cell? ⟨q, 1, none⟩ = some (.map (some bn)) := HP4.out.cells.2.1
  have HE3 := hid e3
  have e2' : (Instr.lookup 79 (.map (some bn)) (.int .u32 (c : Int)) false).run Try.prog (w4.alloc (.cells #[.int .i64 (id : Int)] 3)).drew = .ok v (w4.alloc (.cells #[.int .i64 (id : Int)] 3)).drew := e2
  have z1' : (w4.alloc (.cells #[.int .i64 (id : Int)] 3)).drew.cell? ⟨q, 1, none⟩ = some (.map (some bn)) := z1
  clear hc7 hp7 e3 hz2 hc2 hz3 hz4 hrun4 heq HCH2 HB2 HPT2 HRW2 HC4
  go_wp2_with fail
  go_region_held_law (fun W => W.cell? ⟨q, 1, none⟩ = some (.map (some bn))) (first | assumption) (refine step_app3 42 rfl _ _ rfl _ _ rfl rfl _ w6 HE3.out 42 rfl ?_)
  all_goals
    have hzl := HP7.out.cells.2.2.1
    have hzf := HP7.out.cells.2.2.2 2
    clear e1 e2 e4 e2' z1 z6 z7 z1' hz40
    go_wp2_with fail
    · go_end0
      have hM : max s.last id = id := by omega
      obtain ⟨hp8, hc8⟩ := HP7.out.last id
      rw [hM]
      have hA := HA.out
      refine ⟨rfl, ⟨?_, ?_, _, _, hp8.at_, .inr ⟨bp, bn, _, _, rfl, rfl, hp8.lp, hp8.ln, hp8.ne, hp8.mp, hp8.mn, hp8.pc, hp8.nm⟩⟩, HC7.out.trans hc8⟩
      · have := HOK.out.add hA.1 (by rw [HM.out]; exact hA.2.2.2.1) (by rw [HM.out]; exact hA.2.2.2.2.1) HLT.out HNO.out HT.out
        rw [hM] at this
        exact this
      · simp only [List.length_append, List.length_cons, List.length_nil]
        omega
    · go_end0
      have hM : max s.last id = s.last := by omega
      obtain ⟨hp8, hc8⟩ := HP7.out.last s.last
      rw [hM]
      have hA := HA.out
      refine ⟨rfl, ⟨?_, ?_, _, _, hp8.at_, .inr ⟨bp, bn, _, _, rfl, rfl, hp8.lp, hp8.ln, hp8.ne, hp8.mp, hp8.mn, hp8.pc, hp8.nm⟩⟩, HC7.out.trans hc8⟩
      · have := HOK.out.add hA.1 (by rw [HM.out]; exact hA.2.2.2.1) (by rw [HM.out]; exact hA.2.2.2.2.1) HLT.out HNO.out HT.out
        rw [hM] at this
        exact this
      · simp only [List.length_append, List.length_cons, List.length_nil]
        omega
end Go.Proofs.Ytccahhehbpahoaa
