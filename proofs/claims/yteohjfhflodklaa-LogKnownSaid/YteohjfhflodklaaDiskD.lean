/- What a disk's Flush does. Condition: fewer than a thousand million operations were done. -/
import Derived.Test.YteohjfhflodklaaDiskC
import Derived.Deep.RegionHeld
namespace Go.Proofs.Yteohjfhflodklaa
open Go.RowKit
set_option maxRecDepth 4000
section
variable {P : Program} {ops : Array Oper} {Q : Exit → Act → World → Prop} {md : Region.Mode} {S : World → Prop} {fuel : Nat} {listed : Array Bool} {a : Act} {w : World}
theorem take_op (i : Nat) (t : Option Tmp) (v : Value) {oi : Oper} (hi : ops[i]? = some oi) (hd : oi.dst = t) (hs : Region.noSelect ops = true) (hf : Region.free md ops listed i = true) (hr : (Region.ready md ops listed).contains i = true)
    (hQ : ∀ c a w, Q (.panic c) (a.put oi.dst v) w → Q (.panic c) a w) (hw : Region.wanted oi (yielded ops a.tmps) = true) (hS : S w) (hrun : ∀ w, S w → (execOp a.eval oi).run P w = .ok (.value v) w)
    (h : wpAnyH P md ops Q S fuel (listed.setIfInBounds i true) (a.put t v) w) : wpAnyH P md ops Q S (fuel + 1) listed a w := by
  subst hd
  exact wpAnyH_take hi hs hf hr hQ (.inl ⟨hw, hrun⟩) hS h
theorem ready_load (i : Nat) (t : Option Tmp) {o : Oper} (ho : ops[i]? = some o) (hd : o.dst = t) (hr : Region.ready md ops listed = [i]) (hw : Region.wanted o (yielded ops a.tmps) = true) (ty : TypeId) (x : Operand) (hop : o.op = .load ty x)
    (v : Value) (hrun : (Instr.loadAt ty (a.eval x)).run P w = .ok v w) (hS : S w) (h : wpAnyH P md ops Q S fuel (listed.setIfInBounds i true) (a.put t v) w) : wpAnyH P md ops Q S (fuel + 1) listed a w := by
  subst hd
  refine wpAnyH_ready hr (by simp) (AllReadyH.cons ho (fun K hK => ?_) AllReadyH.nil)
  rw [if_pos hw]
  unfold Oper.wp execOp
  simp only [hop, Sem.run_bind, Sem.run_pure, Result.andThen_ok, hrun]
  exact hK.out _ _ hS (fun _ => h)
theorem ready_store (i : Nat) (t : Option Tmp) {o : Oper} (ho : ops[i]? = some o) (hd : o.dst = t) (hr : Region.ready md ops listed = [i]) (hw : Region.wanted o (yielded ops a.tmps) = true) (ty : TypeId) (x y : Operand) (hop : o.op = .store ty x y)
    (w' : World) (hrun : (Instr.storeAt ty (a.eval x) (a.eval y)).run P w = .ok () w') (hS : S w') (h : wpAnyH P md ops Q S fuel (listed.setIfInBounds i true) (a.put t undef) w') : wpAnyH P md ops Q S (fuel + 1) listed a w := by
  subst hd
  refine wpAnyH_ready hr (by simp) (AllReadyH.cons ho (fun K hK => ?_) AllReadyH.nil)
  rw [if_pos hw]
  unfold Oper.wp execOp
  simp only [hop, Sem.run_bind, Sem.run_pure, Result.andThen_ok, hrun]
  exact hK.out _ _ hS (fun _ => h)
end
def clean (s : Sec) : Sec := ⟨s.last, zeros, false⟩
theorem clean_ok {s : Sec} (h : s.ok) : (clean s).ok := ⟨h.last, bytes_zeros⟩
def flushTo (l : List Sec) (i : Nat) : List Sec := (l.take i).map clean ++ l.drop i
theorem flushTo_zero (l : List Sec) : flushTo l 0 = l := by simp [flushTo]
theorem flushTo_all (l : List Sec) : flushTo l l.length = l.map clean := by simp [flushTo]
theorem flushTo_len (l : List Sec) (i : Nat) (hi : i ≤ l.length) : (flushTo l i).length = l.length := by simp [flushTo]; omega
theorem flushTo_ok {l : List Sec} (h : allOk l) (i : Nat) : allOk (flushTo l i) := by
  intro s hs
  simp only [flushTo, List.mem_append, List.mem_map] at hs
  rcases hs with ⟨t, ht, rfl⟩ | hs
  · exact clean_ok (h t (List.mem_of_mem_take ht))
  · exact h s (List.mem_of_mem_drop hs)
theorem flushTo_get (l : List Sec) (i : Nat) (hi : i < l.length) : (flushTo l i).getD i blank = l.getD i blank := by
  have e : ((l.take i).map clean).length = i := by simp; omega
  simp only [flushTo, List.getD_eq_getElem?_getD]
  rw [List.getElem?_append_right (by omega), e]
  simp
theorem flushTo_set (l : List Sec) (i : Nat) (hi : i < l.length) : (flushTo l i).set i (clean (l.getD i blank)) = flushTo l (i + 1) := by
  have e : ((l.take i).map clean).length = i := by simp; omega
  unfold flushTo
  rw [List.set_append_right _ _ (by omega), e, Nat.sub_self, List.drop_eq_getElem_cons hi, List.set_cons_zero, List.take_succ_eq_append_getElem hi, List.map_append]
  simp [hi]
theorem setCells_eq (w : World) (g o : Nat) (t : TypeId) (cur cs : List Value) (hg : w.heap[g]? = some (.cells cur.toArray t (0, 0))) (hfit : o + cs.length ≤ cur.length) (h1 : ∀ v ∈ cs, v.oneCell' = true) (ty : TypeId) (hi : (Try.prog.info? ty).map (·.size) = some cs.length) :
    w.setCells g o cs = w.setRow g (splice cur o cs).toArray := by
  have e1 := run_storeAt_row w g o t ty cur cs hg hi hfit h1
  have ht : w.there g o cs.toArray.size := fun j hj => by
    have hj' : j < cs.length := by simpa using hj
    have hlt : o + j < cur.length := by omega
    refine ⟨?_, frozen_of_row w g _ _ t hg⟩
    rw [cell_of_row w g _ _ t (0, 0) hg, List.getElem?_toArray, List.getElem?_eq_getElem hlt]
    rfl
  have e2 := run_storeAt_mid (P := Try.prog) w g o ty cs.toArray ht (by simpa using hi) (all_oneCell_toArray h1)
  rw [e1] at e2
  simp at e2
  exact e2.symm
theorem fill_one : ∀ (cs : List Value) (k : Nat) (cells : Array Value), (cs.zipIdx k).foldl (fun (r : Array Value) (x : Value × Nat) => r.setIfInBounds (0 + x.2) x.1) cells = if k + cs.length ≤ cells.size then (splice cells.toList k cs).toArray else (cs.zipIdx k).foldl (fun (r : Array Value) (x : Value × Nat) => r.setIfInBounds (0 + x.2) x.1) cells
  | [], k, cells => by
    simp [splice]
  | c :: cs, k, cells => by
    by_cases h : k + (cs.length + 1) ≤ cells.size
    · have ih := fill_one cs (k + 1) (cells.setIfInBounds k c)
      rw [if_pos (by simp; omega)] at ih
      rw [List.length_cons, if_pos h, List.zipIdx_cons, List.foldl_cons]
      simp only [Nat.zero_add] at ih ⊢
      rw [ih]
      congr 1
      have e := list_seg_step cells.toList k c cs (by simp; omega)
      simp only [splice, Array.toList_setIfInBounds, List.length_cons]
      simpa [Nat.add_assoc, Nat.add_comm 1] using e
    · rw [List.length_cons, if_neg h]
theorem places64 : (Try.prog.info? 84).map (fun i => (0, i.size)) = some (0, 64) ∧ (Try.prog.info? 84).map (fun i => (64, i.size)) = some (64, 64) ∧ (Try.prog.info? 4).map (fun i => (128, i.size)) = some (128, 1) := by
  refine ⟨?_, ?_, ?_⟩ <;> kernel_rfl
theorem build64 (l : List Nat) (hl : Bytes l) (w : World) : (Instr.build 86 #[(0, .agg (row8 l))]).run Try.prog w = .ok (.agg (secCells ⟨l, zeros, false⟩).toArray) w := by
  refine run_build w 86 _ _ ?_
  obtain ⟨i, hi, hz⟩ := Option.map_eq_some_iff.1 info64
  simp only [Prod.mk.injEq] at hz
  have hf : [Field.mk "safe" 84 0 false "" "treering/disk" 0, Field.mk "cached" 84 64 false "" "treering/disk" 64, Field.mk "waits" 4 128 false "" "treering/disk" 128].mapM (fun f => (Try.prog.info? f.type).map fun i => (f.offset, i.size)) = some [(0, 64), (64, 64), (128, 1)] := by
    simp only [List.mapM_cons, List.mapM_nil, places64.1, places64.2.1, places64.2.2]
    rfl
  have hsz : (row8 l).size = 64 := by simp [row8, vals_len, hl.1]
  have hbl := secCells_len blank_ok
  have e := fill_one (vals l) 0 (secCells blank).toArray
  rw [if_pos (by simp [vals_len, hl.1, hbl]), sec_safe blank l blank_ok hl] at e
  unfold Program.built
  rw [hi, Try.underlying86]
  simp only [hz.1, hf, Instr.fill, Value.cells, hsz]
  simp only [List.size_toArray, hbl, List.getElem?_toArray, List.getElem?_cons_zero]
  simp only [Nat.zero_add] at e ⊢
  simp [row8, e]
  rfl
theorem build_run (ρ : Operand → Value) (o : Oper) (s : Sec) (hs : Bytes s.last) (hop : o.op = .build 86 #[(0, .tmp 35)]) (hv : ρ (.tmp 35) = .agg (row8 s.last)) {w : World} : (execOp ρ o).run Try.prog w = .ok (.value (.agg (secCells (clean s)).toArray)) w := by
  have h := build64 s.last hs w
  unfold execOp
  simp only [hop, List.map_toArray, List.map_cons, List.map_nil, hv, Sem.run_bind, h, Result.andThen_ok, Sem.run_pure]
  rfl
theorem DiskAt.there {w : World} {q p : Nat} {d : Dk} (h : DiskAt w q p d) (i : Nat) (hi : i < d.secs.length) : w.there p (i * 129) 129 := fun j hj => by
  have hlen := secsCells_len h.ok.1
  have hlt : i * 129 + j < (secsCells d.secs).length := by omega
  refine ⟨?_, frozen_of_row w p _ _ 86 h.row⟩
  rw [cell_of_row w p _ _ 86 (0, 0) h.row, List.getElem?_toArray, List.getElem?_eq_getElem hlt]
  rfl
set_option maxHeartbeats 1000000 in
theorem flush_ok {w : World} {q p : Nat} {d : Dk} (h : DiskAt w q p d) (hdead : d.dead = false) (hops : d.ops < 1000000000) (hmay : d.may = true) :
    Calls Try.prog 25 #[.pointer (some ⟨q, 0, none⟩)] w fun e w' => e = .returned (.int .i64 0) ∧ DiskAt w' q p { d.spent with secs := d.secs.map clean } ∧ Only q (some p) w w' := by
  have HD := hid h
  have hlen := h.ok.2
  obtain ⟨z, h1, h2, h3, h4, h5⟩ := h
  obtain ⟨c0, c1, c2, c3, c4, cf⟩ := DiskAt.cells h1
  rw [hdead] at c4
  clear h1 h2 h3 h4 h5 hdead c0 c1 c2 c3 cf
  go_enter Try.func25, Try.ntmps25
  go_wp2_with fail
  refine (spend_any HD.out hops).mono ?_
  rintro e w2 ⟨rfl, hd2, ho2⟩
  rw [hmay]
  clear c4
  have HO := hid ho2
  obtain ⟨z, h1, h2, h3, h4, h5⟩ := id hd2
  obtain ⟨c0, c1, c2, c3, c4, cf⟩ := DiskAt.cells h1
  rw [spent_kept] at c0
  have HD2 := hid hd2
  clear h1 h2 h3 h4 h5 hd2 c1 c2 c3 c4 cf ho2
  generalize hN : d.secs.length = N at *
  go_wp2_with fail
  go_loopg [3, 20] N (fun k v3 v wr => ∃ i : Nat, i + k = N ∧ v = .int .i64 (i : Int) ∧ DiskAt wr q p { d.spent with secs := flushTo d.secs i } ∧ Only q (some p) w2 wr)
  case atStart => exact ⟨0, by omega, rfl, by rw [flushTo_zero, ← spent_kept]; exact HD2.out, Only.refl _ _ _⟩
  case round =>
    obtain ⟨i, hk, rfl, hd, ho⟩ := hrel
    have HDi := hid hd
    have HOi := hid ho
    by_cases h1 : i < N
    · have hi : (i : Int) < (N : Int) := by omega
      clear hd ho
      go_wp2_with fail
      have hd := HDi.out
      have hlen2 : (flushTo d.secs i).length = N := by rw [flushTo_len d.secs i (by omega)]; exact hN
      have hcq : wr.drew.cell? ⟨q, 0, none⟩ = some (.slice (some ⟨p, 0, none⟩) N N) := by
        obtain ⟨z2, h1', _⟩ := hd
        have := (DiskAt.cells h1').1
        rw [hlen2] at this
        exact this
      have hth : wr.drew.there p (i * 129) 129 := (World.there_drew _ _ _ _).2 (hd.there i (by rw [hlen2]; exact h1))
      have hok := hd.ok.1.get i (by rw [hlen2]; exact h1)
      have HR := hid ((World.rangeAt_drew _ _ _ _).2 (hd.range i (by rw [hlen2]; exact h1)))
      rw [flushTo_get d.secs i (by omega)] at hok HR
      have HS := hid hok
      clear hd hok
      generalize hs : d.secs.getD i blank = s at *
      refine wp_region_held_drew (S := fun W => W.cell? ⟨q, 0, none⟩ = some (.slice (some ⟨p, 0, none⟩) N N) ∧ W.there p (i * 129) 129) (by kernel_rfl) ⟨hcq, hth⟩ (fun hHeld => ?_)
      clear hcq hth
      refine take_op 0 (some 23) (.pointer (some ⟨q, 0, none⟩)) rfl rfl (by kernel_rfl) (by kernel_rfl) (by kernel_rfl) (fun _ _ _ h => h) (by rfl) hHeld (fun W hW => ?_) ?_
      · have hW1 := hW.1
        clear hW hHeld
        go_simp
      simp only [Act.put, List.setIfInBounds_toArray, List.set_cons_zero, List.set_cons_succ]
      refine take_op 1 (some 24) (.pointer (some ⟨q, 0, none⟩)) rfl rfl (by kernel_rfl) (by kernel_rfl) (by kernel_rfl) (fun _ _ _ h => h) (by rfl) hHeld (fun W hW => ?_) ?_
      · have hW1 := hW.1
        clear hW hHeld
        go_simp
      simp only [Act.put, List.setIfInBounds_toArray, List.set_cons_zero, List.set_cons_succ]
      refine take_op 2 (some 25) (.pointer (some ⟨q, 0, none⟩)) rfl rfl (by kernel_rfl) (by kernel_rfl) (by kernel_rfl) (fun _ _ _ h => h) (by rfl) hHeld (fun W hW => ?_) ?_
      · have hW1 := hW.1
        clear hW hHeld
        go_simp
      simp only [Act.put, List.setIfInBounds_toArray, List.set_cons_zero, List.set_cons_succ]
      refine take_op 3 (some 26) (.slice (some ⟨p, 0, none⟩) N N) rfl rfl (by kernel_rfl) (by kernel_rfl) (by kernel_rfl) (fun _ _ _ h => h) (by rfl) hHeld (fun W hW => ?_) ?_
      · have hW1 := hW.1
        clear hW hHeld
        go_simp
      simp only [Act.put, List.setIfInBounds_toArray, List.set_cons_zero, List.set_cons_succ]
      refine take_op 4 (some 27) (.int .i64 (i : Int)) rfl rfl (by kernel_rfl) (by kernel_rfl) (by kernel_rfl) (fun _ _ _ h => h) (by rfl) hHeld (fun W hW => ?_) ?_
      · have hW1 := hW.1
        clear hW hHeld
        go_simp
      simp only [Act.put, List.setIfInBounds_toArray, List.set_cons_zero, List.set_cons_succ]
      refine take_op 5 (some 28) (.pointer (some ⟨q, 0, none⟩)) rfl rfl (by kernel_rfl) (by kernel_rfl) (by kernel_rfl) (fun _ _ _ h => h) (by rfl) hHeld (fun W hW => ?_) ?_
      · have hW1 := hW.1
        clear hW hHeld
        go_simp
      simp only [Act.put, List.setIfInBounds_toArray, List.set_cons_zero, List.set_cons_succ]
      refine take_op 6 (some 29) (.pointer (some ⟨q, 0, none⟩)) rfl rfl (by kernel_rfl) (by kernel_rfl) (by kernel_rfl) (fun _ _ _ h => h) (by rfl) hHeld (fun W hW => ?_) ?_
      · have hW1 := hW.1
        clear hW hHeld
        go_simp
      simp only [Act.put, List.setIfInBounds_toArray, List.set_cons_zero, List.set_cons_succ]
      refine take_op 7 (some 30) (.pointer (some ⟨q, 0, none⟩)) rfl rfl (by kernel_rfl) (by kernel_rfl) (by kernel_rfl) (fun _ _ _ h => h) (by rfl) hHeld (fun W hW => ?_) ?_
      · have hW1 := hW.1
        clear hW hHeld
        go_simp
      simp only [Act.put, List.setIfInBounds_toArray, List.set_cons_zero, List.set_cons_succ]
      refine take_op 8 (some 31) (.slice (some ⟨p, 0, none⟩) N N) rfl rfl (by kernel_rfl) (by kernel_rfl) (by kernel_rfl) (fun _ _ _ h => h) (by rfl) hHeld (fun W hW => ?_) ?_
      · have hW1 := hW.1
        clear hW hHeld
        go_simp
      simp only [Act.put, List.setIfInBounds_toArray, List.set_cons_zero, List.set_cons_succ]
      refine take_op 9 (some 32) (.int .i64 (i : Int)) rfl rfl (by kernel_rfl) (by kernel_rfl) (by kernel_rfl) (fun _ _ _ h => h) (by rfl) hHeld (fun W hW => ?_) ?_
      · have hW1 := hW.1
        clear hW hHeld
        go_simp
      simp only [Act.put, List.setIfInBounds_toArray, List.set_cons_zero, List.set_cons_succ]
      refine take_op 10 (some 33) (.pointer (some ⟨p, i * 129, none⟩)) rfl rfl (by kernel_rfl) (by kernel_rfl) (by kernel_rfl) (fun _ _ _ h => h) (by rfl) hHeld (fun W hW => ?_) ?_
      · have hW1 := hW.1
        clear hW hHeld
        go_simp
      simp only [Act.put, List.setIfInBounds_toArray, List.set_cons_zero, List.set_cons_succ]
      refine ready_load 11 (some 34) rfl rfl (by kernel_rfl) (by rfl) 86 _ rfl (.agg (secCells s).toArray) (load64 _ _ _ _ HS.out HR.out) hHeld ?_
      simp only [Act.put, List.setIfInBounds_toArray, List.set_cons_zero, List.set_cons_succ]
      refine wpAnyH_ready (rs := [12]) (by kernel_rfl) (by simp) (AllReadyH.cons rfl (fun K hK => ?_) AllReadyH.nil)
      have HK := hid hK
      have HH := hid hHeld
      clear hK hHeld
      go_simp
      refine (last_any _ s HS.out).mono ?_
      rintro e w5 ⟨rfl, hb5⟩
      have hd5 := (HDi.out.kept (w' := wr.drew) rfl rfl).below hb5
      have hi5 : i < (flushTo d.secs i).length := by omega
      have hc5 : w5.cell? ⟨q, 0, none⟩ = some (.slice (some ⟨p, 0, none⟩) N N) := by
        obtain ⟨z2, h1', _⟩ := hd5
        have := (DiskAt.cells h1').1
        rw [hlen2] at this
        exact this
      refine HK.out.out _ _ ⟨hc5, hd5.there i hi5⟩ (fun hHeld => ?_)
      have hcl := clean_ok HS.out
      have hsp := secs_splice hd5.ok.1 i 0 (secCells (clean s)) (clean s) hi5 (by rw [secCells_len hcl]; decide) (sec_whole _ _ (hd5.ok.1.get i hi5) hcl)
      rw [Nat.add_zero, ← hs, flushTo_set d.secs i (by omega)] at hsp
      have hok6 : allOk (flushTo d.secs (i + 1)) := by rw [← flushTo_set d.secs i (by omega), hs]; exact hd5.ok.1.set i hcl
      have hlen6 : (flushTo d.secs (i + 1)).length = (flushTo d.secs i).length := by rw [flushTo_len d.secs (i + 1) (by omega), hlen2, hN]
      have hd6 := hd5.setRow _ hok6 hlen6
      have hfit : i * 129 + (secCells (clean s)).length ≤ (secsCells (flushTo d.secs i)).length := by rw [secCells_len hcl, secsCells_len hd5.ok.1]; show i * 129 + 129 ≤ (flushTo d.secs i).length * 129; omega
      have hst := run_storeAt_row w5 p (i * 129) 86 86 _ (secCells (clean s)) hd5.row (by rw [secCells_len hcl]; exact size64) hfit (secCells_one _)
      rw [hs] at hsp
      rw [hsp] at hst
      have hc6 : (w5.setRow p (secsCells (flushTo d.secs (i + 1))).toArray).cell? ⟨q, 0, none⟩ = some (.slice (some ⟨p, 0, none⟩) N N) := by
        obtain ⟨z2, h1', _⟩ := hd6
        have := (DiskAt.cells h1').1
        simp only [hlen6, hlen2] at this
        exact this
      have hth6 := hd6.there i (by show i < (flushTo d.secs (i + 1)).length; omega)
      have HST := hid hst
      have HD6 := hid hd6
      have HSB := hid hb5
      clear hsp hok6 hd6 hfit hst hd5 hb5 hcl hc5 hlen6
      refine take_op 13 (some 36) (.agg (secCells (clean s)).toArray) rfl rfl (by kernel_rfl) (by kernel_rfl) (by kernel_rfl) (fun _ _ _ h => h) (by rfl) hHeld (fun W hW => ?_) ?_
      · exact build_run _ _ _ HS.out.last rfl rfl
      simp only [Act.put, List.setIfInBounds_toArray, List.set_cons_zero, List.set_cons_succ]
      refine take_op 14 (some 37) (.pointer (some ⟨p, i * 129, none⟩)) rfl rfl (by kernel_rfl) (by kernel_rfl) (by kernel_rfl) (fun _ _ _ h => h) (by rfl) hHeld (fun W hW => ?_) ?_
      · have hW1 := hW.1
        clear hW hHeld hc6 hth6
        go_simp
      simp only [Act.put, List.setIfInBounds_toArray, List.set_cons_zero, List.set_cons_succ]
      refine ready_store 15 none rfl rfl (by kernel_rfl) (by rfl) 86 _ _ rfl _ HST.out ⟨hc6, hth6⟩ ?_
      simp only [Act.put]
      refine wpAnyH_done (by kernel_rfl) ?_ _
      generalize hw6 : w5.setRow p (secsCells (flushTo d.secs (i + 1))).toArray = w6 at *
      have HW6 := hid hw6
      clear hHeld hc6 hth6 hw6
      go_wp2_with fail
      go_roundg (gk - 1)
      case measure => omega
      case rel =>
        refine ⟨i + 1, by omega, by go_num, HD6.out, ?_⟩
        have hb5 := HSB.out
        refine HOi.out.tr ?_
        rw [← HW6.out]
        exact (Only.of_below (w := wr) ⟨hb5.os, hb5.tape, hb5.output, hb5.size, hb5.block⟩).tr (only_setRow w5 q p _)
    · obtain rfl : i = N := by omega
      clear hd ho h1
      go_wp2_with fail
      go_ret
      refine ⟨rfl, ?_, (HO.out.weak).tr HOi.out⟩
      have := HDi.out
      rw [← hN, flushTo_all] at this
      exact this
set_option maxHeartbeats 1000000 in
theorem flush_burnt {w : World} {q p : Nat} {d : Dk} (h : DiskAt w q p d) (hdead : d.dead = false) (hops : d.ops < 1000000000) (hmay : d.may = false) :
    Calls Try.prog 25 #[.pointer (some ⟨q, 0, none⟩)] w fun e w' => e = .returned (.int .i64 15) ∧ DiskAt w' q p d.spent ∧ Only q none w w' := by
  have HD := hid h
  obtain ⟨z, h1, h2, h3, h4, h5⟩ := h
  obtain ⟨c0, c1, c2, c3, c4, cf⟩ := DiskAt.cells h1
  rw [hdead] at c4
  clear h1 h2 h3 h4 h5 hdead c0 c1 c2 c3 cf
  go_enter Try.func25, Try.ntmps25
  go_wp2_with fail
  refine (spend_any HD.out hops).mono ?_
  rintro e w2 ⟨rfl, hd2, ho2⟩
  rw [hmay]
  have HO := hid ho2
  have HD2 := hid hd2
  clear c4 ho2 hd2
  go_wp2_with fail
  go_ret
  exact ⟨rfl, HD2.out, HO.out⟩
set_option maxHeartbeats 1000000 in
theorem flush_dead {w : World} {q p : Nat} {d : Dk} (h : DiskAt w q p d) (hdead : d.dead = true) :
    Calls Try.prog 25 #[.pointer (some ⟨q, 0, none⟩)] w fun e w' => e = .returned (.int .i64 15) ∧ w' = w := by
  obtain ⟨z, h1, h2, h3, h4, h5⟩ := h
  obtain ⟨c0, c1, c2, c3, c4, cf⟩ := DiskAt.cells h1
  rw [hdead] at c4
  clear h1 h2 h3 h4 h5 hdead c0 c1 c2 c3 cf
  go_enter Try.func25, Try.ntmps25
  go_wp2_with fail
  go_ret
  exact ⟨rfl, rfl⟩
/-- What a Flush answers, and what becomes of the disk. -/
def Dk.flush (d : Dk) : Dk × Int := if d.dead then (d, 15) else if d.may = false then (d.spent, 15) else ({ d.spent with secs := d.secs.map clean }, 0)
theorem flush_any {w : World} {q p : Nat} {d : Dk} (h : DiskAt w q p d) (hops : d.ops < 1000000000) :
    Calls Try.prog 25 #[.pointer (some ⟨q, 0, none⟩)] w fun e w' => e = .returned (.int .i64 d.flush.2) ∧ DiskAt w' q p d.flush.1 ∧ Only q (some p) w w' := by
  cases hd : d.dead
  · cases hm : d.may
    · refine (flush_burnt h hd hops hm).mono ?_
      rintro e w' ⟨rfl, h1, h2⟩
      rw [Dk.flush, if_neg (by simp [hd]), if_pos hm]
      exact ⟨rfl, h1, h2.weak⟩
    · rw [Dk.flush, if_neg (by simp [hd]), if_neg (by simp [hm])]
      exact flush_ok h hd hops hm
  · refine (flush_dead h hd).mono ?_
    rintro e w' ⟨rfl, rfl⟩
    rw [Dk.flush, if_pos hd]
    exact ⟨rfl, h, Only.refl _ _ _⟩
end Go.Proofs.Yteohjfhflodklaa
