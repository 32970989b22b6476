/- What Write and Flush of the document's own disk do. Condition: fewer than a thousand million operations were done. -/
import Derived.Test.YtoniolndoidkcaaRefA
import Derived.Deep.RegionHeldLaw
namespace Go.Proofs.Ytoniolndoidkcaa
open Go.RowKit
/-- append(nil, b...): a row of its own. -/
theorem append_nil (W : World) (ty : TypeId) (a : Option Addr) (b : List Nat) (cap : Nat) (hr : Row W a b) (hb : b.length = 64) :
    ∃ g cap' w', (Builtin.append_ #[23, 23] ty #[.slice none 0 0, .slice a 64 cap]).run Try.prog W = .ok (.slice (some ⟨g, 0, none⟩) 64 cap') w' ∧ RBuf w' g b ∧ Below W.heap.size W w' ∧ W.heap.size ≤ g ∧ 64 ≤ cap' := by
  have hne : b ≠ [] := by intro e; rw [e] at hb; simp at hb
  obtain ⟨g, cap', w', hrun, hown, hgrow, hat⟩ := run_append_row W ty W.heap.size (.slice none 0 0) [] (World.ownsRow_nil _ _ 5 1) a b cap hr hne (by simp [hb]) (Nat.le_refl _)
  simp only [List.nil_append, hb] at hrun hown
  have hgg : W.heap.size ≤ g := by
    rcases hat with h | h
    · simp [Value.ownBlock] at h
    · exact h
  have h64 : 64 ≤ cap' := by
    rcases hown.2 with ⟨h1, _⟩ | ⟨g', c', cur, h1, _, _, hc, _⟩
    · simp at h1
    · simp at h1; omega
  refine ⟨g, cap', w', hrun, (rbuf_of_owns hown ⟨hb, hr.1⟩).1, ⟨hgrow.os, hgrow.tape, hgrow.output, hgrow.size, fun k hk => hgrow.block k hk (by simp [Value.ownBlock])⟩, hgg, h64⟩
theorem step_app_region {ops : Array Oper} {op : Oper} {a : Act} {w : World} {K : Act → World → Prop} {Q : Exit → Act → World → Prop} {E : Prop} (hgd : op.guard = none) (d s : Operand)
    (ho : op.op = .call { callee := .builtin .append, args := #[d, s], argTypes := #[23, 23] }) (x y : Value) (hd : a.eval d = x) (hs : a.eval s = y) (v : Value) (w' : World) (hrun : (Builtin.append_ #[23, 23] op.type #[x, y]).run Try.prog w = .ok v w')
    (h : K (a.put op.dst v) w') : if Region.wanted op (yielded ops a.tmps) = true then Oper.wp Try.prog op a w K Q else E := by
  have hw : Region.wanted op (yielded ops a.tmps) = true := by simp [Region.wanted, hgd]
  rw [if_pos hw]
  unfold Oper.wp
  simp [execOp, ho, resolve, invoke, builtin, hd, hs, hrun, Result.andThen]
  exact h
/-- The blocks of the document's own disk, told apart. -/
theorem RefOk.apart {base : Nat} {w : World} {q : Nat} {R : RefMem} {d : Dk} (h : RefOk base w q R d) (hn : 0 < d.n) : q ≠ R.F ∧ q ≠ R.C ∧ q ≠ R.D ∧ R.F ≠ R.D ∧ R.C ≠ R.D ∧ R.F ≠ R.C := by
  have hT : ∀ {b : Nat} {t : TypeId} {n : Nat} {f : Nat → Value}, Tab w b t n f → t ≠ 47 → q ≠ b := fun h1 ht e => by
    obtain ⟨xs, h2, _⟩ := id h1
    rw [← e, h.head] at h2
    simp at h2
    exact ht h2.2.symm
  exact ⟨hT (h.tf hn) (by decide), hT (h.tc hn) (by decide), hT (h.td hn) (by decide), (h.tf hn).type_ne (h.td hn) (by decide), (h.tc hn).type_ne (h.td hn) (by decide), h.ne hn⟩
theorem RefOk.rows_lt {base : Nat} {w : World} {q : Nat} {R : RefMem} {d : Dk} (h : RefOk base w q R d) (i : Nat) (hi : i < d.n) : R.fr i < w.heap.size ∧ R.cr i < w.heap.size := ⟨(h.rf i hi).1.lt, (h.rc i hi).1.lt⟩
/-- A row that is laid into Cached and marked. -/
theorem rwrite_mem {base : Nat} {w w3 : World} {q i g cap' : Nat} {R : RefMem} {d : Dk} (h : RefOk base w q R d) (hi : i < d.n) {b : List Nat} (hb : RBuf w3 g b) (hl : Below w.heap.size w w3) (hg : w.heap.size ≤ g) (hc : 64 ≤ cap') (hbase : base ≤ w.heap.size) :
    ∃ w5, w5 = (w3.setCell ⟨R.C, i, none⟩ (.slice (some ⟨g, 0, none⟩) 64 cap')).setCell ⟨R.D, i, none⟩ (.bool true) ∧ (∃ R', RefOk base w5 q R' (d.turned i { d.sec i with cached := b, waits := true })) ∧ RKeep base w w5 := by
  have hpos : 0 < d.n := by omega
  have h3 := h.below hl
  obtain ⟨a1, a2, a3, a4, a5, a6⟩ := h3.apart hpos
  have hs := h.ok.1.get i hi
  have rne : ∀ j, j < d.n → R.fr j ≠ R.C ∧ R.fr j ≠ R.D ∧ R.cr j ≠ R.C ∧ R.cr j ≠ R.D := fun j hj => ⟨(h3.rf j hj).1.type_ne (h3.tc hpos) (by decide), (h3.rf j hj).1.type_ne (h3.td hpos) (by decide), (h3.rc j hj).1.type_ne (h3.tc hpos) (by decide), (h3.rc j hj).1.type_ne (h3.td hpos) (by decide)⟩
  have gne : g ≠ R.C ∧ g ≠ R.D := ⟨hb.1.type_ne (h3.tc hpos) (by decide), hb.1.type_ne (h3.td hpos) (by decide)⟩
  have two : ∀ k, k ≠ R.C → k ≠ R.D → ((w3.setCell ⟨R.C, i, none⟩ (.slice (some ⟨g, 0, none⟩) 64 cap')).setCell ⟨R.D, i, none⟩ (.bool true)).heap[k]? = w3.heap[k]? := fun k h1 h2 => (Below.heap_setCell _ _ _ k h2).trans (Below.heap_setCell _ _ _ k h1)
  refine ⟨_, rfl, ⟨_, h3.upd i hi { d.sec i with cached := b, waits := true } ⟨hs.1, hb.2⟩ (R.fr i) (R.fc i) g cap' (two q a2 a3)
    (((h3.tf hpos).kept (two R.F a6 a4)).congr fun j _ => by by_cases e : j = i <;> simp [e])
    (((h3.tc hpos).set i _).other _ _ a5)
    (((h3.td hpos).other ⟨R.C, i, none⟩ _ (Ne.symm a5)).set i _)
    ((h3.rf i hi).kept (two _ (rne i hi).1 (rne i hi).2.1)) (hb.kept (two _ gne.1 gne.2))
    (fun j hj _ => ⟨two _ (rne j hj).1 (rne j hj).2.1, two _ (rne j hj).2.2.1 (rne j hj).2.2.2⟩)
    ⟨by have := (h.rows_lt i hi).1; omega, fun j hj hji => ⟨fun e => hji ((h.inj i j hi hj).1 e).symm, (h.inj i j hi hj).2.2, by have := (h.rows_lt j hj).1; omega, by have := (h.rows_lt j hj).2; omega⟩⟩ ⟨(h.low.2.2 i hi).1, by omega⟩ ⟨(h.caps i hi).1, hc⟩⟩, ?_⟩
  obtain ⟨xs, hx, _⟩ := h3.tc hpos
  obtain ⟨ys, hy, _⟩ := (h3.td hpos).other ⟨R.C, i, none⟩ (.slice (some ⟨g, 0, none⟩) 64 cap') (Ne.symm a5)
  have hl2 := h.low.2.1 hpos
  exact ((RKeep.of_below hl).trans (RKeep.of_set hx (by decide) (by decide) hl2.2.1 i _)).trans (RKeep.of_set hy (by decide) (by decide) hl2.2.2 i _)
theorem Row.head {base : Nat} {w w' : World} {q : Nat} {R : RefMem} {d : Dk} {a : Option Addr} {l : List Nat} (h : Row w a l) (hd : RefOk base w q R d) (ho : Only q none w w') : Row w' a l := by
  refine ⟨h.1, ?_⟩
  rcases h.2 with h2 | ⟨b, off, ha, hlt, hc⟩
  · exact .inl h2
  · by_cases hl : l = []
    · exact .inl hl
    · have hne : b ≠ q := by
        intro e
        subst e
        have h3 := hc 0 (List.length_pos_iff.2 hl)
        rw [cell_of_row w b _ _ 47 (0, 0) hd.head] at h3
        rcases off with _ | _ | _ | _ | _ | _ | off <;> simp at h3
      refine .inr ⟨b, off, ha, Nat.lt_of_lt_of_le hlt ho.size, fun i hi => ?_⟩
      have := ho.block b hlt hne (by simp)
      rw [← hc i hi]
      simp only [World.cell?, this]
set_option maxHeartbeats 2000000 in
theorem rwrite_ok {base : Nat} {w : World} {q i : Nat} {R : RefMem} {d : Dk} (h : RefOk base w q R d) (hdead : d.dead = false) (hi : i < d.n) (hops : d.ops < 1000000000) (hmay : d.may = true) (a : Option Addr) (b : List Nat) (cap : Nat) (hr : Row w a b) (hb : b.length = 64) (hbase : base ≤ w.heap.size) :
    Calls Try.prog 15 #[.pointer (some ⟨q, 0, none⟩), .int .i64 (i : Int), .slice a 64 cap] w fun e w' => e = .returned (.int .i64 0) ∧ (∃ R', RefOk base w' q R' (d.spent.put i b)) ∧ RKeep base w w' := by
  obtain ⟨c0, c1, c2, c3, c4, c5, cf⟩ := h.cells
  rw [hdead] at c5
  have HH := hid h
  have HR := hid hr
  have t0 : ¬ ((i : Int) < 0) := by omega
  have t1 : (i : Int) < (d.n : Int) := by omega
  clear h hr c0 c2 c3 c4 cf hdead
  go_enter Try.func15, Try.ntmps15
  go_wp2_with fail
  refine (rop_any HH.out hops).mono ?_
  rintro e w2 ⟨rfl, z, h2, ho⟩
  rw [hmay]
  have hn2 : d.spent.n = d.n := by simp [Dk.n, spent_secs]
  have hi2 : i < d.spent.n := by omega
  have hpos : 0 < d.spent.n := by omega
  have hrd := (HR.out.head HH.out ho)
  have hrd2 : Row w2.drew a b := hrd
  obtain ⟨g, cap', w3, hrun, hbuf, hbel, hgg, hcc⟩ := append_nil w2.drew 23 a b cap hrd2 hb
  have h2d := h2.drew
  obtain ⟨w5, hw5, hok5, hk5⟩ := rwrite_mem h2d hi2 hbuf hbel hgg hcc (Nat.le_trans hbase ho.size)
  have h3 := h2d.below hbel
  obtain ⟨a1, a2, a3, a4, a5, a6⟩ := h3.apart hpos
  obtain ⟨e0, e1, e2, _, _, _, _⟩ := h2.cells
  obtain ⟨f0, f1, f2, _, _, _, _⟩ := h3.cells
  obtain ⟨_, hca, hda⟩ := h2.ad hpos
  simp only at hca hda
  simp only [hca, hda, hn2] at e1 e2 f1 f2
  have kC := (h3.tc hpos).cell i hi2
  have kD := (h3.td hpos).cell i hi2
  have kFC := (h3.tc hpos).frozen i
  have kFD := (h3.td hpos).frozen i
  have jD : (w3.setCell ⟨R.C, i, none⟩ (.slice (some ⟨g, 0, none⟩) 64 cap')).cell? ⟨R.D, i, none⟩ = some (.bool (d.spent.sec i).waits) := ((h3.td hpos).other ⟨R.C, i, none⟩ _ (Ne.symm a5)).cell i hi2
  have jFD := ((h3.td hpos).other ⟨R.C, i, none⟩ (.slice (some ⟨g, 0, none⟩) 64 cap') (Ne.symm a5)).frozen i
  simp only at kC kD kFC kFD jD jFD a1 a2 a3 a4 a5 a6 hw5
  have cellq : ∀ (W W' : World) (j : Nat), W'.heap[q]? = W.heap[q]? → W'.cell? ⟨q, j, none⟩ = W.cell? ⟨q, j, none⟩ := fun W W' j e => by simp only [World.cell?, e]
  have q4 : (w3.setCell ⟨R.C, i, none⟩ (.slice (some ⟨g, 0, none⟩) 64 cap')).heap[q]? = w3.heap[q]? := Below.heap_setCell _ _ _ q a2
  have q5 : ((w3.setCell ⟨R.C, i, none⟩ (.slice (some ⟨g, 0, none⟩) 64 cap')).setCell ⟨R.D, i, none⟩ (.bool true)).heap[q]? = w3.heap[q]? := (Below.heap_setCell _ _ _ q a3).trans q4
  have s41 := (cellq _ _ 1 q4).trans f1
  have s42 := (cellq _ _ 2 q4).trans f2
  have s51 := (cellq _ _ 1 q5).trans f1
  have s52 := (cellq _ _ 2 q5).trans f2
  have d1 : w2.drew.cell? ⟨q, 1, none⟩ = some (.slice (some ⟨R.C, 0, none⟩) d.n R.kc) := e1
  have d2 : w2.drew.cell? ⟨q, 2, none⟩ = some (.slice (some ⟨R.D, 0, none⟩) d.n R.kd) := e2
  have HOK := hid hok5
  have HK5 := hid hk5
  have HW5 := hid hw5
  have HRUN := hid hrun
  have HO := hid ho
  have S3 := hid (And.intro f1 f2)
  have S4 := hid (And.intro s41 s42)
  have S5 := hid (And.intro s51 s52)
  have HPUT : Hid (d.spent.put i b = d.spent.turned i { d.spent.sec i with cached := b, waits := true }) := rfl
  clear hok5 hk5 hw5 hrun ho h2 h2d h3 hrd hrd2 hbuf hbel hgg hcc f0 f1 f2 e0 s41 s42 s51 s52 cellq q4 q5 hca hda hn2 a1 a2 a3 a4 a6
  generalize d.spent.sec i = ss at *
  generalize hNN : d.n = N at *
  generalize R.C = CB at *
  generalize R.D = DB at *
  generalize R.kc = kc at *
  generalize R.kd = kd at *
  clear hNN
  go_wp2_with fail
  go_region_held_law (fun W => W.cell? ⟨q, 1, none⟩ = some (.slice (some ⟨CB, 0, none⟩) N kc) ∧ W.cell? ⟨q, 2, none⟩ = some (.slice (some ⟨DB, 0, none⟩) N kd)) (first | exact ⟨d1, d2⟩ | exact S3.out | exact S4.out | exact S5.out) (refine step_app_region rfl _ _ rfl _ _ rfl rfl _ w3 HRUN.out ?_)
  go_wp2_with fail
  go_ret
  rw [← HW5.out, HPUT.out]
  exact ⟨rfl, HOK.out, (HH.out.keep_head HO.out).trans ((RKeep.of_below (Below.refl _ _).drew).trans HK5.out)⟩
set_option maxHeartbeats 2000000 in
theorem rwrite_burnt {base : Nat} {w : World} {q i : Nat} {R : RefMem} {d : Dk} (h : RefOk base w q R d) (hdead : d.dead = false) (hi : i < d.n) (hops : d.ops < 1000000000) (hmay : d.may = false) (a : Option Addr) (cap : Nat) :
    Calls Try.prog 15 #[.pointer (some ⟨q, 0, none⟩), .int .i64 (i : Int), .slice a 64 cap] w fun e w' => e = .returned (.int .i64 15) ∧ (∃ R', RefOk base w' q R' d.spent) ∧ RKeep base w w' := by
  obtain ⟨c0, c1, c2, c3, c4, c5, cf⟩ := h.cells
  rw [hdead] at c5
  have HH := hid h
  have t0 : ¬ ((i : Int) < 0) := by omega
  have t1 : (i : Int) < (d.n : Int) := by omega
  clear h c0 c2 c3 c4 cf hdead
  go_enter Try.func15, Try.ntmps15
  go_wp2_with fail
  refine (rop_any HH.out hops).mono ?_
  rintro e w2 ⟨rfl, z, h2, ho⟩
  rw [hmay]
  have H2 := hid h2
  have HO := hid ho
  clear h2 ho
  go_wp2_with fail
  go_ret
  exact ⟨rfl, ⟨_, H2.out⟩, HH.out.keep_head HO.out⟩
set_option maxHeartbeats 2000000 in
theorem rwrite_dead {base : Nat} {w : World} {q : Nat} {R : RefMem} {d : Dk} (h : RefOk base w q R d) (hdead : d.dead = true) (z : Int) (v : Value) :
    Calls Try.prog 15 #[.pointer (some ⟨q, 0, none⟩), .int .i64 z, v] w fun e w' => e = .returned (.int .i64 15) ∧ w' = w := by
  obtain ⟨c0, c1, c2, c3, c4, c5, cf⟩ := h.cells
  rw [hdead] at c5
  clear h c0 c1 c2 c3 c4 cf hdead
  go_enter Try.func15, Try.ntmps15
  go_wp2_with fail
  go_ret
  exact ⟨rfl, rfl⟩
set_option maxHeartbeats 2000000 in
theorem rwrite_arg {base : Nat} {w : World} {q : Nat} {R : RefMem} {d : Dk} (h : RefOk base w q R d) (hdead : d.dead = false) (z : Int) (a : Option Addr) (n cap : Nat) (hz : d.has z = false ∨ n ≠ 64) :
    Calls Try.prog 15 #[.pointer (some ⟨q, 0, none⟩), .int .i64 z, .slice a n cap] w fun e w' => e = .returned (.int .i64 1) ∧ w' = w := by
  obtain ⟨c0, c1, c2, c3, c4, c5, cf⟩ := h.cells
  rw [hdead] at c5
  have hdn : d.secs.length = d.n := rfl
  simp only [Dk.has, hdn] at hz
  generalize d.n = N at *
  clear h c0 c2 c3 c4 cf hdead hdn
  by_cases h0 : z < 0
  · clear hz
    go_enter Try.func15, Try.ntmps15
    go_wp2_with fail
    go_ret
    exact ⟨rfl, rfl⟩
  by_cases h1 : (N : Int) ≤ z
  · clear hz
    go_enter Try.func15, Try.ntmps15
    go_wp2_with fail
    go_ret
    exact ⟨rfl, rfl⟩
  have h2 : ¬ ((n : Int) = 64) := by
    rcases hz with h | h
    · have e1 : decide (0 ≤ z) = true := decide_eq_true (by omega)
      have e2 : decide (z < (N : Int)) = true := decide_eq_true (by omega)
      rw [e1, e2] at h
      simp at h
    · omega
  clear hz
  go_enter Try.func15, Try.ntmps15
  go_wp2_with fail
  go_ret
  exact ⟨rfl, rfl⟩
theorem rwrite_any {base : Nat} {w : World} {q : Nat} {R : RefMem} {d : Dk} (h : RefOk base w q R d) (hops : d.ops < 1000000000) (z : Int) (a : Option Addr) (b : List Nat) (n cap : Nat) (hr : Row w a b) (hb : b.length = n) (hbase : base ≤ w.heap.size) :
    Calls Try.prog 15 #[.pointer (some ⟨q, 0, none⟩), .int .i64 z, .slice a n cap] w fun e w' => e = .returned (.int .i64 (d.write z b).2) ∧ (∃ R', RefOk base w' q R' (d.write z b).1) ∧ RKeep base w w' := by
  subst hb
  cases hd : d.dead
  · by_cases hz : d.has z = false ∨ b.length ≠ 64
    · refine (rwrite_arg h hd z a b.length cap hz).mono ?_
      rintro e w' ⟨rfl, rfl⟩
      rw [Dk.write, if_neg (by simp [hd]), if_pos hz]
      exact ⟨rfl, ⟨_, h⟩, RKeep.refl _ _⟩
    · have hz1 : d.has z = true := by simpa using (fun e => hz (.inl e) : ¬ d.has z = false)
      have hz2 : b.length = 64 := Decidable.not_not.1 (fun e => hz (.inr e))
      obtain ⟨i, rfl⟩ : ∃ i : Nat, z = (i : Int) := ⟨z.toNat, by simp [Dk.has] at hz1; omega⟩
      have hi : i < d.n := by simp [Dk.has] at hz1; exact hz1
      rw [Dk.write, if_neg (by simp [hd]), if_neg hz, hz2]
      cases hm : d.may
      · rw [if_pos rfl]
        exact rwrite_burnt h hd hi hops hm a cap
      · rw [if_neg (by simp)]
        exact rwrite_ok h hd hi hops hm a b cap hr hz2 hbase
  · refine (rwrite_dead h hd z _).mono ?_
    rintro e w' ⟨rfl, rfl⟩
    rw [Dk.write, if_pos hd]
    exact ⟨rfl, ⟨_, h⟩, RKeep.refl _ _⟩
end Go.Proofs.Ytoniolndoidkcaa
