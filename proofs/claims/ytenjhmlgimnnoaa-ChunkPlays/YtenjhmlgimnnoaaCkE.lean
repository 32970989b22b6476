/- What Drop of a store does. Condition: numbers of int64. -/
import Derived.Test.YtenjhmlgimnnoaaCkD
namespace Go.Proofs.Ytenjhmlgimnnoaa
open Go.ChangeShapes Go.WideShapes Go.ChangeAt Go.RowKit Go.Maps
open Crc (nx nx_lt sum_any)
set_option maxRecDepth 4000
set_option linter.unusedVariables false
attribute [local go_sem ↓] Go.wp_at_zero Go.wp_at_succ
theorem step_delr {ops : Array Oper} {op : Oper} {a : Act} {w : World} {K : Act → World → Prop} {Q : Exit → Act → World → Prop} {E : Prop} (t k : TypeId) (hgd : op.guard = none) (d s : Operand)
    (ho : op.op = .call { callee := .builtin .delete, args := #[d, s], argTypes := #[t, k] }) (x y : Value) (hd : a.eval d = x) (hs : a.eval s = y) (w' : World) (hrun : ∀ ty, (Builtin.delete_ #[t, k] ty #[x, y]).run Try.prog w = .ok (.tuple #[]) w')
    (hz : op.dst = none) (h : K a w') : if Region.wanted op (yielded ops a.tmps) = true then Oper.wp Try.prog op a w K Q else E := by
  have hw : Region.wanted op (yielded ops a.tmps) = true := by simp [Region.wanted, hgd]
  have h' : K (a.put op.dst (.tuple #[])) w' := by rw [hz]; exact h
  rw [if_pos hw]
  unfold Oper.wp
  simp [execOp, ho, resolve, invoke, builtin, hd, hs, hrun, Result.andThen]
  exact h'
theorem step_dell {ops : Array Oper} {rest : List Oper} {op : Oper} {a : Act} {w : World} {Q : Exit → Act → World → Prop} (t k : TypeId) (hgd : op.guard = none) (d s : Operand)
    (ho : op.op = .call { callee := .builtin .delete, args := #[d, s], argTypes := #[t, k] }) (x y : Value) (hd : a.eval d = x) (hs : a.eval s = y) (w' : World) (hrun : ∀ ty, (Builtin.delete_ #[t, k] ty #[x, y]).run Try.prog w = .ok (.tuple #[]) w')
    (h : wpList Try.prog ops Q rest (a.put op.dst (.tuple #[])) w') : wpList Try.prog ops Q (op :: rest) a w :=
  wpList_plain hgd fun _ hK => by
    unfold Oper.wp execOp
    simp only [ho, resolve, invoke, builtin, Sem.run_bind, Sem.run_pure, Result.andThen_ok, List.map_toArray, List.map_cons, List.map_nil, hd, hs, hrun]
    exact hK _ _ h
set_option maxHeartbeats 400000 in
theorem drop_no {base : Nat} {w : World} {q n : Nat} {s : St} (h : CkAt base w q n s) (z : Int) (hw : (Lit.int .i64 z).wf = true) (hno : byId s.ps z = none) :
    Calls Try.prog 12 #[.pointer (some ⟨q, 0, none⟩), .int .i64 z] w fun e w' => e = .returned (.bool false) ∧ CkAt base w' q (n + 1) s ∧ Chg q base w w' := by
  have H := hid h
  have hb1 : Below w.heap.size w (w.alloc (.cells #[.int .i64 z] 3)) := (Below.refl _ w).alloc (Nat.le_refl _) _
  have hnew := heap_alloc_new w (.cells #[.int .i64 z] 3)
  have hsz : w.heap.size < (w.alloc (.cells #[.int .i64 z] 3)).heap.size := by simp
  obtain ⟨P, N, c0, c1, c2, cf, hmp, hq⟩ := (h.below hb1).cells
  obtain ⟨v, hv1, hv2, hlk⟩ := hmp.piece z hw
  obtain rfl := hv1 hno
  have hqlt := (h.below hb1).lt
  rw [hno] at hlk
  simp only [Option.isSome_none] at hlk
  have HB1 := hid hb1
  clear hb1 hv1 hv2 hno h hmp hq c1 c2 cf
  go_enter Try.func12, Try.ntmps12
  go_wp2_with fail
  generalize w.alloc (.cells #[.int .i64 z] 3) = w1 at *
  have d0 : ∀ W, Below w1.heap.size w1 W → W.cell? ⟨q, 0, none⟩ = some (.map P) := fun W hW => (hW.cell (p := ⟨q, 0, none⟩) hqlt).trans c0
  have d1 : ∀ W, Below w1.heap.size w1 W → W.cell? ⟨w.heap.size, 0, none⟩ = some (.int .i64 z) := fun W hW => (hW.cell (p := ⟨w.heap.size, 0, none⟩) hsz).trans (by rw [cell_of_row w1 _ 0 _ 3 (0, 0) hnew]; rfl)
  have hlk2 : ∀ W, Below w1.heap.size w1 W → (Instr.lookup 52 (.map P) (.int .i64 z) true).run Try.prog W = .ok (.tuple #[.slice none 0 0, .bool false]) W := fun W hW => (hlk W hW).1
  have hz := (Below.refl w1.heap.size w1).drew
  clear hlk hnew c0
  go_region_held (fun W => Below w1.heap.size w1 W) (first | assumption) (fail)
  have HZ := hid hz
  clear hlk2 d0 d1 hz
  go_wp2_with fail
  go_ret
  exact ⟨rfl, (H.out.below (HB1.out.trans (HZ.out.mono HB1.out.size))).mono (by omega), Chg.of_below (HB1.out.trans (HZ.out.mono HB1.out.size))⟩
theorem Nums.hit {base : Nat} {w : World} {ps : Ps} {g : Int → Option Value} (h : Nums base w ps g) {id : Nat} {l : List Nat} (hp : (id, l) ∈ ps) :
    ∃ gr cap, g ((nx 0 l : Nat) : Int) = some (.slice (some ⟨gr, 0, none⟩) (those ps ((nx 0 l : Nat) : Int)).length cap) ∧ gr < w.heap.size ∧ base ≤ gr := by
  have hm : (id : Int) ∈ those ps ((nx 0 l : Nat) : Int) := List.mem_map.2 ⟨_, List.mem_filter.2 ⟨hp, by simp⟩, rfl⟩
  cases hg : g ((nx 0 l : Nat) : Int) with
  | none =>
    rw [h.no _ hg] at hm
    cases hm
  | some v =>
    have ho := h.yes _ v hg
    rcases ho.2 with ⟨_, h0⟩ | ⟨gr, cap, cur, rfl, hb, hc, _⟩
    · rw [List.length_eq_zero_iff.1 h0] at hm
      cases hm
    · exact ⟨gr, cap, rfl, lt_of_some hc, hb⟩
set_option maxHeartbeats 400000 in
theorem drop_made {base : Nat} {w : World} {q n bp bn : Nat} {s : St} {f g : Int → Option Value} (hpt : Parts base w q n s.ps s.ps s.last bp bn f g) (hok : Ok s.ps s.last) (id : Nat) (l : List Nat) (hp : (id, l) ∈ s.ps) (hi : id < 9223372036854775808) (hn : n ≤ 999999) (hfew : s.ps.length ≤ n) (hbase : base ≤ w.heap.size) :
    Calls Try.prog 12 #[.pointer (some ⟨q, 0, none⟩), .int .i64 (id : Int)] w fun e w' => e = .returned (.bool true) ∧ CkAt base w' q (n + 1) ⟨without s.ps (id : Int), s.last⟩ ∧ Chg q base w w' := by
  have hw : (Lit.int .i64 (id : Int)).wf = true := i64_wf (by omega) (by omega)
  have hb1 : Below w.heap.size w (w.alloc (.cells #[.int .i64 (id : Int)] 3)) := (Below.refl _ w).alloc (Nat.le_refl _) _
  have hnew := heap_alloc_new w (.cells #[.int .i64 (id : Int)] 3)
  have hsz : w.heap.size < (w.alloc (.cells #[.int .i64 (id : Int)] 3)).heap.size := by simp
  have hpt1 := hpt.below hb1
  have HCH1 := hid (Chg.of_below (q := q) (base := base) hb1)
  have hqlt := hpt1.lt
  have c0 := hpt1.cells.1
  have hby := byId_mem hok.ids hp
  obtain ⟨v, hf, g0, cap0, hve, hown0⟩ := (hpt1.pc (id : Int)).2 l hby
  subst hve
  have hlk : ∀ W, Below (w.alloc (.cells #[.int .i64 (id : Int)] 3)).heap.size (w.alloc (.cells #[.int .i64 (id : Int)] 3)) W → (Instr.lookup 52 (.map (some bp)) (.int .i64 (id : Int)) true).run Try.prog W = .ok (.tuple #[.slice (some ⟨g0, 0, none⟩) l.length cap0, .bool true]) W := fun W hW => by
    have := ((hpt1.below hW).mp.look (t := 52) Try.underlying3 Try.underlying52 zero27 (id : Int) hw).1
    rw [hf] at this
    exact this
  have hpos := hok.pos _ hp
  have HPOS := hid hpos
  have HROW := hid hown0
  obtain ⟨gr, capr, hgr, hgrlt, hgrb⟩ := hpt.nm.hit hp
  have HGR := hid hgr
  have HPT1 := hid hpt1
  have HOK := hid hok
  have HP := hid hp
  have HB0 := hid (Nat.le_trans hbase (Nat.le_of_lt hsz))
  obtain ⟨ll, hll⟩ : ∃ ll, l.length = ll := ⟨_, rfl⟩
  have HLL := hid hll
  rw [hll] at hlk
  clear hpt hpt1 hok hp hbase hf hown0 hpos hby hll hb1 hgr
  go_enter Try.func12, Try.ntmps12
  go_wp2_with fail
  generalize hB : w.heap.size = B at *
  generalize w.alloc (.cells #[.int .i64 (id : Int)] 3) = w1 at *
  have HB := hid hB
  clear hB
  have d0 : ∀ W, Below w1.heap.size w1 W → W.cell? ⟨q, 0, none⟩ = some (.map (some bp)) := fun W hW => (hW.cell (p := ⟨q, 0, none⟩) hqlt).trans c0
  have d1 : ∀ W, Below w1.heap.size w1 W → W.cell? ⟨B, 0, none⟩ = some (.int .i64 (id : Int)) := fun W hW => (hW.cell (p := ⟨B, 0, none⟩) hsz).trans (by rw [cell_of_row w1 _ 0 _ 3 (0, 0) hnew]; rfl)
  have hz := (Below.refl w1.heap.size w1).drew
  go_region_held (fun W => Below w1.heap.size w1 W) (first | assumption) (fail)
  have hz1 : w1.drew.cell? ⟨q, 0, none⟩ = some (.map (some bp)) := d0 _ hz
  have hz2 : w1.drew.cell? ⟨B, 0, none⟩ = some (.int .i64 (id : Int)) := d1 _ hz
  have HZ := hid hz
  have HD1 := hid d1
  clear d0 d1 hz c0 hlk
  go_wp2_with fail
  obtain ⟨w4, hdel, hp4, hc4, hg4⟩ := (HPT1.out.below (HZ.out.drew)).unpiece (id : Int) hw
  have e4q := hp4.cells.1
  have e4B : w4.cell? ⟨B, 0, none⟩ = some (.int .i64 (id : Int)) := by
    obtain ⟨es, c, hm⟩ := HPT1.out.mp.is_map
    have := kept_cells (w := w1.drew.drew) hm hg4 (show w1.drew.drew.heap[B]? = _ from hnew)
    rw [cell_of_row w4 _ 0 _ 3 (0, 0) this]; rfl
  have hBlt : B < w4.heap.size := Nat.lt_of_lt_of_le hsz hc4.size
  have HP4 := hid hp4
  have HC4 := hid (Chg.trans (Chg.of_below (q := q) (base := base) (HZ.out.drew)) hc4)
  have HDEL := hid hdel
  have HR4 := hid ((row_of_owns' HLL.out (by have := (HC4.out).owns HROW.out (by decide) (by decide); rw [HLL.out] at this; exact this) HPOS.out.2.2.2.2).2)
  clear hdel hp4 hc4 hg4
  go_region_held_law (fun W => W.cell? ⟨q, 0, none⟩ = some (.map (some bp)) ∧ W.cell? ⟨B, 0, none⟩ = some (.int .i64 (id : Int))) (first | exact ⟨hz1, hz2⟩ | exact ⟨e4q, e4B⟩) (refine step_delr 52 3 rfl _ _ rfl _ _ rfl rfl w4 HDEL.out rfl ?_)
  have hsum := sum_any (some ⟨g0, 0, none⟩) l cap0 w4 HR4.out (by have := HPOS.out.2.2.2.1; omega)
  rw [HLL.out] at hsum
  clear e4q hz1 hz2 hnew
  go_wp2_with fail
  refine hsum.mono ?_
  rintro e w5 ⟨rfl, hb5⟩
  have hp5 := HP4.out.below hb5
  have HC5 := hid (HCH1.out.trans (HC4.out.trans (Chg.of_below hb5)))
  have hB5 : w5.cell? ⟨B, 0, none⟩ = some (.int .i64 (id : Int)) := (hb5.cell (p := ⟨B, 0, none⟩) hBlt).trans e4B
  have hB5lt : B < w5.heap.size := Nat.lt_of_lt_of_le hBlt hb5.size
  have hlk5 := (hp5.mn.look (t := 53) Try.underlying60 Try.underlying53 zero39 ((nx 0 l : Nat) : Int) (u32_wf (nx_lt 0 l))).2
  rw [HGR.out] at hlk5
  simp only [Option.getD_some] at hlk5
  have h5q := hp5.cells.2.1
  have hk9 : (those s.ps ((nx 0 l : Nat) : Int)).length ≤ 1000000 := Nat.le_trans (those_le _ _) (by omega)
  have hne : B ≠ gr := by omega
  have hdl := del_any rfl (hp5.nm.yes _ _ HGR.out) hk9 (id : Int) B hB5lt hB5 hne
  rw [← those_less] at hdl
  have HDL := hid hdl
  have HP5 := hid hp5
  clear hsum hb5 hp5 hB5 hB5lt hdl e4B hBlt
  obtain ⟨k5, hk5⟩ : ∃ k5, (those s.ps ((nx 0 l : Nat) : Int)).length = k5 := ⟨_, rfl⟩
  obtain ⟨m5, hm5⟩ : ∃ m5, (those (without s.ps (id : Int)) ((nx 0 l : Nat) : Int)).length = m5 := ⟨_, rfl⟩
  have HK5 := hid hk5
  have HM5 := hid hm5
  rw [hk5] at hlk5 HDL
  rw [hm5] at HDL
  obtain ⟨c, hc⟩ : ∃ c, nx 0 l = c := ⟨_, rfl⟩
  have HC := hid hc
  rw [hc] at hlk5 ⊢
  clear hk5 hm5 hk9 hc
  go_wp2_with fail
  refine HDL.out.mono ?_
  rintro e w6 ⟨rfl, ho6, hg6⟩
  have hu := HP5.out.unnumber HOK.out id l HP.out (by omega) gr _ capr HGR.out hg6 (by rw [HM5.out]; exact ho6)
  rw [HM5.out, HC.out] at hu
  obtain ⟨w7, hupd, h6q, hp7, hc7⟩ := hu
  have HC7 := hid (HC5.out.trans hc7)
  have HP7 := hid hp7
  have h7q := hp7.cells.2.1
  clear hlk5 h5q ho6 hg6 hp7 hc7 HDL
  have hok' := HOK.out.less (id : Int)
  have hlen := without_len HOK.out HP.out
  by_cases hm0 : m5 = 0
  · have g1 : ((m5 : Int) == 0) = true := by simp [hm0]
    have hst := HP7.out.strike (c : Int) (u32_wf (by have := nx_lt 0 l; rw [HC.out] at this; exact this)) (by have := HM5.out; rw [HC.out, hm0] at this; exact List.length_eq_zero_iff.1 this)
    obtain ⟨w8, hdel8, hp8, hc8⟩ := hst
    have HP8 := hid hp8
    have HC8 := hid (HC7.out.trans hc8)
    have HD8 := hid hdel8
    have HOK' := hid hok'
    clear hp8 hc8 hdel8 hok' hm0
    go_wp2_with (refine step_dell 53 60 rfl _ _ rfl _ _ rfl rfl w8 HD8.out ?_)
    go_ret
    exact ⟨rfl, ⟨HOK'.out, by show (without _ _).length ≤ _; omega, _, _, HP8.out.at_, .inr ⟨bp, bn, _, _, rfl, rfl, HP8.out.lp, HP8.out.ln, HP8.out.ne, HP8.out.mp, HP8.out.mn, HP8.out.pc, HP8.out.nm⟩⟩, HC8.out⟩
  · have g1 : ((m5 : Int) == 0) = false := by simp; omega
    have HOK' := hid hok'
    clear hok' hm0
    go_wp2_with fail
    go_ret
    exact ⟨rfl, ⟨HOK'.out, by show (without _ _).length ≤ _; omega, _, _, HP7.out.at_, .inr ⟨bp, bn, _, _, rfl, rfl, HP7.out.lp, HP7.out.ln, HP7.out.ne, HP7.out.mp, HP7.out.mn, HP7.out.pc, HP7.out.nm⟩⟩, HC7.out⟩
theorem drop_none {s : St} {a : Int} (h : byId s.ps a = none) : drop s a = (false, s) := by
  unfold drop
  rw [if_pos h]
theorem drop_some {s : St} {a : Int} (h : byId s.ps a ≠ none) : drop s a = (true, ⟨without s.ps a, s.last⟩) := by
  unfold drop
  rw [if_neg h]
theorem drop_any {base : Nat} {w : World} {q n : Nat} {s : St} (h : CkAt base w q n s) (z : Int) (hw : (Lit.int .i64 z).wf = true) (hn : n ≤ 999999) (hls : s.last < 9000000000000000000) (hbase : base ≤ w.heap.size) :
    Calls Try.prog 12 #[.pointer (some ⟨q, 0, none⟩), .int .i64 z] w fun e w' => e = .returned (.bool (drop s z).1) ∧ CkAt base w' q (n + 1) (drop s z).2 ∧ Chg q base w w' := by
  cases hi : byId s.ps z with
  | none =>
    rw [drop_none hi]
    exact drop_no h z hw hi
  | some l =>
    rw [drop_some (by rw [hi]; simp)]
    obtain ⟨id, rfl, hp⟩ := byId_some hi
    have hpos := h.ok.pos _ hp
    obtain ⟨hok, hfew, P, N, hq, hmp⟩ := h
    rcases hmp with ⟨rfl, rfl, hps⟩ | ⟨bp, bn, f, g, rfl, rfl, h3, h4, h5, h6, h7, h8, h9⟩
    · rw [hps] at hp; simp at hp
    · exact drop_made ⟨hq, h3, h4, h5, h6, h7, h8, h9⟩ hok id l hp (by have := hpos.2.1; simp only at this; omega) hn hfew hbase
end Go.Proofs.Ytenjhmlgimnnoaa
