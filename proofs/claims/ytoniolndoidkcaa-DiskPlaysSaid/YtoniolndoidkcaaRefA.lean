/- What the document's own disk answers: op, Read, Spoil. Condition: fewer than a thousand million operations were done. -/
import Derived.Test.YtoniolndoidkcaaRef
namespace Go.Proofs.Ytoniolndoidkcaa
open Go.RowKit
/-- The head alone is turned. -/
theorem RefOk.turn {base : Nat} {w w' : World} {q : Nat} {R : RefMem} {d d' : Dk} {z : Int} (h : RefOk base w q R d) (ho : Only q none w w') (hs : d'.secs = d.secs)
    (hh : w'.heap[q]? = some (.cells #[.slice R.fa d.n R.kf, .slice R.ca d.n R.kc, .slice R.da d.n R.kd, .int .i64 z, .int .i64 (d'.ops : Int), .bool d'.dead] 47 (0, 0)))
    (h1 : d'.fuse = none → z = -1) (h2 : ∀ n : Nat, d'.fuse = some n → z = (n : Int) ∧ n < 9223372036854775808) : RefOk base w' q { R with z := z } d' := by
  have hn : d'.n = d.n := by simp [Dk.n, hs]
  have hsec : ∀ i, d'.sec i = d.sec i := fun i => by simp [Dk.sec, hs]
  have hT : ∀ {b : Nat} {t : TypeId} {n : Nat} {f : Nat → Value}, Tab w b t n f → t ≠ 47 → Tab w' b t n f := fun h1 ht => by
    obtain ⟨xs, h2, _⟩ := id h1
    refine h1.kept (ho.block _ h1.lt ?_ (by simp))
    intro e
    subst e
    rw [h.head] at h2
    simp at h2
    exact ht h2.2.symm
  refine ⟨by rw [hn]; exact hh, h1, h2, by rw [hn]; exact h.ad, ?_, ?_, ?_, ?_, ?_, by rw [hn]; exact h.ne, by rw [hn]; exact h.inj, by rw [hn]; exact h.caps, by rw [hn]; exact h.low, by rw [hn, hs]; exact h.ok⟩
  · rw [hn]; exact fun hp => hT (h.tf hp) (by decide)
  · rw [hn]; exact fun hp => hT (h.tc hp) (by decide)
  · rw [hn]; exact fun hp => (hT (h.td hp) (by decide)).congr fun i _ => by rw [hsec]
  · rw [hn]; exact fun i hi => by rw [hsec]; exact ⟨hT (h.rf i hi).1 (by decide), (h.rf i hi).2⟩
  · rw [hn]; exact fun i hi => by rw [hsec]; exact ⟨hT (h.rc i hi).1 (by decide), (h.rc i hi).2⟩
theorem RefOk.keep_head {base : Nat} {w w' : World} {q : Nat} {R : RefMem} {d : Dk} (h : RefOk base w q R d) (ho : Only q none w w') : RKeep base w w' :=
  ⟨ho.os, ho.tape, ho.output, ho.size, fun k hk hk2 => ho.block k hk2 (by have := h.low.1; omega) (by simp), fun k xs t hk ht => by
    refine ho.block k (Array.getElem?_eq_some_iff.1 hk).1 ?_ (by simp)
    intro e
    subst e
    rw [h.head] at hk
    simp at hk
    exact ht.1 hk.2.symm⟩
set_option maxHeartbeats 1000000 in
theorem rop_any {base : Nat} {w : World} {q : Nat} {R : RefMem} {d : Dk} (h : RefOk base w q R d) (hops : d.ops < 1000000000) :
    Calls Try.prog 30 #[.pointer (some ⟨q, 0, none⟩)] w fun e w' => e = .returned (.bool d.may) ∧ ∃ z, RefOk base w' q { R with z := z } d.spent ∧ Only q none w w' := by
  obtain ⟨c0, c1, c2, c3, c4, c5, cf⟩ := h.cells
  have cf3 := cf 3
  have cf4 := cf 4
  have cf5 := cf 5
  have HH := hid h
  rcases hf : d.fuse with _ | _ | n
  · have hz := h.none_ hf
    rw [hz] at c3
    have ho := only_setCell w q 4 none (.int .i64 ((d.ops + 1 : Nat) : Int))
    have h1 := h.turn (d' := { d with ops := d.ops + 1 }) (z := -1) ho rfl (by rw [heap_setCell_same _ _ _ _ _ _ h.head, hz]; simp) (fun _ => rfl) (fun n e => by simp [hf] at e)
    have h2 := ho
    have e1 : d.may = true := by simp [Dk.may, hf]
    have e2 : d.spent = { d with ops := d.ops + 1 } := by simp [Dk.spent, hf]
    rw [e1, e2]
    have e3 : ((d.ops + 1 : Nat) : Int) = (d.ops : Int) + 1 := by omega
    rw [e3] at h1 h2
    have H1 := hid h1
    have H2 := hid h2
    generalize hO : (d.ops : Int) = O at *
    have g2 : -9223372036854775808 ≤ O + 1 ∧ O + 1 < 9223372036854775808 := by omega
    clear h h1 h2 ho e1 e2 e3 hf hz cf hO c0 c1 c2
    go_enter Try.func30, Try.ntmps30
    go_wp2_with fail
    go_ret
    exact ⟨rfl, -1, H1.out, H2.out⟩
  · have hz := (h.some_ 0 hf).1
    rw [hz] at c3
    have ho := only_setCell w q 5 none (.bool true)
    have h1 := h.turn (d' := { d with dead := true }) (z := 0) ho rfl (by rw [heap_setCell_same _ _ _ _ _ _ h.head, hz]; simp) (fun e => by simp [hf] at e) (fun n e => by simp [hf] at e; subst e; exact ⟨rfl, by decide⟩)
    have h2 := ho
    have e1 : d.may = false := by simp [Dk.may, hf]
    have e2 : d.spent = { d with dead := true } := by simp [Dk.spent, hf]
    rw [e1, e2]
    have H1 := hid h1
    have H2 := hid h2
    clear h h1 h2 ho e1 e2 hf hz cf c0 c1 c2
    go_enter Try.func30, Try.ntmps30
    go_wp2_with fail
    go_ret
    exact ⟨rfl, 0, H1.out, H2.out⟩
  · obtain ⟨hz, hn⟩ := h.some_ (n + 1) hf
    have ho := (only_setCell w q 3 none (.int .i64 (n : Int))).tr (only_setCell _ q 4 none (.int .i64 ((d.ops + 1 : Nat) : Int)))
    have h1 := h.turn (d' := { d with fuse := some n, ops := d.ops + 1 }) (z := n) ho rfl (by rw [heap_setCell_same _ _ _ _ _ _ (heap_setCell_same _ _ _ _ _ _ h.head)]; simp) (fun e => by simp at e) (fun m e => by simp at e; subst e; exact ⟨rfl, by omega⟩)
    have h2 := ho
    have e1 : d.may = true := by simp [Dk.may, hf]
    have e2 : d.spent = { d with fuse := some n, ops := d.ops + 1 } := by simp [Dk.spent, hf]
    rw [e1, e2]
    rw [hz] at c3
    have t1 : ((((n + 1 : Nat) : Int)) == 0) = false := by simp; omega
    have t2 : (0 : Int) < ((n + 1 : Nat) : Int) := by omega
    generalize hN : (((n + 1 : Nat) : Int)) = N at *
    generalize hO : (d.ops : Int) = O at *
    have g1 : -9223372036854775808 ≤ N - 1 ∧ N - 1 < 9223372036854775808 := by omega
    have g2 : -9223372036854775808 ≤ O + 1 ∧ O + 1 < 9223372036854775808 := by omega
    have e3 : (n : Int) = N - 1 := by omega
    have e4 : ((d.ops + 1 : Nat) : Int) = O + 1 := by omega
    rw [e3, e4] at h1 h2
    have H1 := hid h1
    have H2 := hid h2
    clear h h1 h2 ho e1 e2 e3 e4 hf hz cf hN hO c0 c1 c2 c5
    go_enter Try.func30, Try.ntmps30
    go_wp2_with fail
    go_ret
    exact ⟨rfl, N - 1, H1.out, H2.out⟩
set_option maxHeartbeats 1000000 in
theorem rread_dead {base : Nat} {w : World} {q : Nat} {R : RefMem} {d : Dk} (h : RefOk base w q R d) (hdead : d.dead = true) (z : Int) :
    Calls Try.prog 19 #[.pointer (some ⟨q, 0, none⟩), .int .i64 z] w fun e w' => e = .returned (.tuple #[.slice none 0 0, .int .i64 15]) ∧ w' = w := by
  obtain ⟨c0, c1, c2, c3, c4, c5, cf⟩ := h.cells
  rw [hdead] at c5
  clear h c0 c1 c2 c3 c4 cf
  go_enter Try.func19, Try.ntmps19
  go_wp2_with fail
  go_ret2
  exact ⟨rfl, rfl⟩
set_option maxHeartbeats 1000000 in
theorem rread_arg {base : Nat} {w : World} {q : Nat} {R : RefMem} {d : Dk} (h : RefOk base w q R d) (hdead : d.dead = false) (z : Int) (hz : d.has z = false) :
    Calls Try.prog 19 #[.pointer (some ⟨q, 0, none⟩), .int .i64 z] w fun e w' => e = .returned (.tuple #[.slice none 0 0, .int .i64 1]) ∧ w' = w := by
  obtain ⟨c0, c1, c2, c3, c4, c5, cf⟩ := h.cells
  rw [hdead] at c5
  have hn : d.n = d.secs.length := rfl
  rw [hn] at c1
  generalize hNN : d.secs.length = N at *
  by_cases h0 : z < 0
  · clear h c0 c2 c3 c4 cf hz hn
    go_enter Try.func19, Try.ntmps19
    go_wp2_with fail
    go_ret2
    exact ⟨rfl, rfl⟩
  · have h1 : (N : Int) ≤ z := by
      simp [Dk.has, hNN] at hz
      omega
    clear h c0 c2 c3 c4 cf hz hn
    go_enter Try.func19, Try.ntmps19
    go_wp2_with fail
    go_ret2
    exact ⟨rfl, rfl⟩
set_option maxHeartbeats 1000000 in
theorem rread_ok {base : Nat} {w : World} {q i : Nat} {R : RefMem} {d : Dk} (h : RefOk base w q R d) (hdead : d.dead = false) (hi : i < d.n) :
    Calls Try.prog 19 #[.pointer (some ⟨q, 0, none⟩), .int .i64 (i : Int)] w fun e w' => e = .returned (.tuple #[.slice (some ⟨R.cr i, 0, none⟩) 64 (R.cc i), .int .i64 0]) ∧ w' = w := by
  obtain ⟨c0, c1, c2, c3, c4, c5, cf⟩ := h.cells
  rw [hdead] at c5
  rw [(h.ad (by omega)).2.1] at c1
  have hci := (h.tc (by omega)).cell i hi
  generalize d.n = N at *
  have t1 : ¬ ((i : Int) < 0) := by omega
  have t2 : (i : Int) < (N : Int) := by omega
  clear h c0 c2 c3 c4 cf
  go_enter Try.func19, Try.ntmps19
  go_wp2_with fail
  go_ret2
  exact ⟨rfl, rfl⟩
theorem RBuf.list {w : World} {g : Nat} {l : List Nat} (h : RBuf w g l) : ∃ rest : List Value, w.heap[g]? = some (.cells (vals l ++ rest).toArray 5 (0, 0)) := by
  obtain ⟨⟨xs, h1, h2⟩, h3⟩ := h
  have hsz : 64 ≤ xs.size := by
    have := (Array.getElem?_eq_some_iff.1 (h2 63 (by decide))).1
    omega
  have e : xs.toList.take 64 = vals l := by
    apply List.ext_getElem?
    intro i
    by_cases hi : i < 64
    · rw [List.getElem?_take, if_pos hi, vals_get l i (by rw [h3.1]; exact hi)]
      simpa using h2 i hi
    · rw [List.getElem?_eq_none (by simp; omega), List.getElem?_eq_none (by rw [vals_len, h3.1]; omega)]
  refine ⟨xs.toList.drop 64, ?_⟩
  rw [← e, List.take_append_drop]
  simpa using h1
theorem rbuf_list {w : World} {g : Nat} {l : List Nat} {rest : List Value} (h : w.heap[g]? = some (.cells (vals l ++ rest).toArray 5 (0, 0))) (hl : Bytes l) : RBuf w g l :=
  ⟨⟨_, h, fun i hi => by rw [List.getElem?_toArray, List.getElem?_append_left (by rw [vals_len, hl.1]; exact hi), vals_get l i (by rw [hl.1]; exact hi)]⟩, hl⟩
/-- Bytes laid over a row. -/
theorem RBuf.over {w : World} {g : Nat} {l : List Nat} (h : RBuf w g l) (y : Nat) {b : List Nat} (hb : ∀ x ∈ b, x < 256) (hl : y + b.length ≤ 64) :
    ∃ cur : List Value, w.heap[g]? = some (.cells cur.toArray 5 (0, 0)) ∧ y + b.length ≤ cur.length ∧ RBuf (w.setRow g (splice cur y (vals b)).toArray) g (over l y b) := by
  obtain ⟨rest, h1⟩ := h.list
  have hlen := h.2.1
  refine ⟨_, h1, by rw [List.length_append, vals_len, hlen]; omega, ?_⟩
  rw [splice_left _ _ _ _ (by rw [vals_len, vals_len, hlen]; exact hl), vals_over]
  exact rbuf_list (setRow_heap w g _ _ 5 _ h1) (bytes_over h.2 y hb hl)
theorem spoilt_last (s : Sec) (y : Nat) (b : List Nat) : (spoilt s y b).last = over s.last y b := by
  unfold spoilt Sec.last
  by_cases h : s.waits = true
  · rw [if_pos h, if_pos h, if_pos h]
  · rw [if_neg h, if_neg h, if_neg h]
set_option maxHeartbeats 2000000 in
theorem rspoil_ok {base : Nat} {w : World} {q i y : Nat} {R : RefMem} {d : Dk} (h : RefOk base w q R d) (hi : i < d.n) (a : Option Addr) (b : List Nat) (n cap : Nat) (hr : Row w a b) (hn : b.length = n) (hne : b ≠ []) (hap : ∀ x, a = some x → x.block < base) (hy : y + n ≤ 64) :
    Calls Try.prog 21 #[.pointer (some ⟨q, 0, none⟩), .int .i64 (i : Int), .int .i64 (y : Int), .slice a n cap] w fun e w' => e = .returned (.bool true) ∧ RefOk base w' q R (d.turned i (spoilt (d.sec i) y b)) ∧ RKeep base w w' := by
  obtain ⟨c0, c1, c2, c3, c4, c5, cf⟩ := h.cells
  have hpos : 0 < d.n := by omega
  rw [(h.ad hpos).1] at c0
  rw [(h.ad hpos).2.1] at c1
  have hcF := (h.tf hpos).cell i hi
  have hcC := (h.tc hpos).cell i hi
  obtain ⟨cur1, hg1, hf1, hb1⟩ := (h.rf i hi).over y hr.1 (by omega)
  have hin := h.inj i i hi hi
  have hrc : RBuf (w.setRow (R.fr i) (splice cur1 y (vals b)).toArray) (R.cr i) (d.sec i).last := (h.rc i hi).kept (setRow_other w _ _ _ (Ne.symm hin.2.2))
  obtain ⟨cur2, hg2, hf2, hb2⟩ := hrc.over y hr.1 (by omega)
  have k1 : RKeep base w (w.setRow (R.fr i) (splice cur1 y (vals b)).toArray) := RKeep.of_setRow hg1 (by decide) (by decide) (h.low.2.2 i hi).1 _
  have k2 : RKeep base (w.setRow (R.fr i) (splice cur1 y (vals b)).toArray) ((w.setRow (R.fr i) (splice cur1 y (vals b)).toArray).setRow (R.cr i) (splice cur2 y (vals b)).toArray) := RKeep.of_setRow hg2 (by decide) (by decide) (h.low.2.2 i hi).2 _
  have hr1 : Row (w.setRow (R.fr i) (splice cur1 y (vals b)).toArray) a b := by
    refine ⟨hr.1, ?_⟩
    rcases hr.2 with h3 | ⟨b0, off, ha, hlt, hc⟩
    · exact .inl h3
    · refine .inr ⟨b0, off, ha, Nat.lt_of_lt_of_le hlt k1.size, fun j hj => ?_⟩
      rw [← hc j hj]
      have := k1.block b0 (hap _ ha) hlt
      simp only [World.cell?, this]
  have hT : ∀ {bb : Nat} {t : TypeId} {m : Nat} {f : Nat → Value}, Tab w bb t m f → t ≠ 5 → Tab ((w.setRow (R.fr i) (splice cur1 y (vals b)).toArray).setRow (R.cr i) (splice cur2 y (vals b)).toArray) bb t m f := fun ht hne5 =>
    ht.kept ((setRow_other _ _ _ _ (ht.type_ne (h.rc i hi).1 hne5)).trans (setRow_other _ _ _ _ (ht.type_ne (h.rf i hi).1 hne5)))
  have hfin := h.upd i hi (spoilt (d.sec i) y b) (spoilt_ok (h.ok.1.get i hi) y hr.1 (by omega)) (R.fr i) (R.fc i) (R.cr i) (R.cc i)
    (w' := (w.setRow (R.fr i) (splice cur1 y (vals b)).toArray).setRow (R.cr i) (splice cur2 y (vals b)).toArray)
    ((setRow_other _ _ _ _ (fun e => by have h5 := (h.rc i hi).1; obtain ⟨xs, h6, _⟩ := h5; rw [← e, h.head] at h6; simp at h6)).trans (setRow_other _ _ _ _ (fun e => by have h5 := (h.rf i hi).1; obtain ⟨xs, h6, _⟩ := h5; rw [← e, h.head] at h6; simp at h6)))
    ((hT (h.tf hpos) (by decide)).congr fun j _ => by by_cases e : j = i <;> simp [e])
    ((hT (h.tc hpos) (by decide)).congr fun j _ => by by_cases e : j = i <;> simp [e])
    ((hT (h.td hpos) (by decide)).congr fun j _ => by by_cases e : j = i <;> simp [e, spoilt])
    (hb1.kept (setRow_other _ _ _ _ hin.2.2)) (by rw [spoilt_last]; exact hb2)
    (fun j hj hji => ⟨(setRow_other _ _ _ _ (h.inj j i hj hi).2.2).trans (setRow_other _ _ _ _ (fun e => hji ((h.inj j i hj hi).1 e))), (setRow_other _ _ _ _ (fun e => hji ((h.inj j i hj hi).2.1 e))).trans (setRow_other _ _ _ _ (fun e => (h.inj i j hi hj).2.2 e.symm))⟩)
    ⟨hin.2.2, fun j hj hji => ⟨fun e => hji ((h.inj i j hi hj).1 e).symm, (h.inj i j hi hj).2.2, fun e => (h.inj j i hj hi).2.2 e.symm, fun e => hji ((h.inj i j hi hj).2.1 e).symm⟩⟩ (h.low.2.2 i hi) (h.caps i hi)
  have hup : ∀ (f : Nat → Nat), upd f i (f i) = f := fun f => by
    funext j
    by_cases e : j = i <;> simp [upd, e]
  rw [hup, hup, hup, hup] at hfin
  change RefOk base _ q R (d.turned i (spoilt (d.sec i) y b)) at hfin
  have hc1' : (w.setRow (R.fr i) (splice cur1 y (vals b)).toArray).cell? ⟨q, 1, none⟩ = some (.slice (some ⟨R.C, 0, none⟩) d.n R.kc) := by
    rw [← c1]
    have : (w.setRow (R.fr i) (splice cur1 y (vals b)).toArray).heap[q]? = w.heap[q]? := setRow_other _ _ _ _ (fun e => by have h5 := (h.rf i hi).1; obtain ⟨xs, h6, _⟩ := h5; rw [← e, h.head] at h6; simp at h6)
    simp only [World.cell?, this]
  have hcC' : (w.setRow (R.fr i) (splice cur1 y (vals b)).toArray).cell? ⟨R.C, i, none⟩ = some (.slice (some ⟨R.cr i, 0, none⟩) 64 (R.cc i)) := by
    rw [← hcC]
    have : (w.setRow (R.fr i) (splice cur1 y (vals b)).toArray).heap[R.C]? = w.heap[R.C]? := setRow_other _ _ _ _ ((h.tc hpos).type_ne (h.rf i hi).1 (by decide))
    simp only [World.cell?, this]
  have hcap := h.caps i hi
  have HFIN := hid hfin
  have HK := hid (k1.trans k2)
  have HR := hid hr
  have HR1 := hid hr1
  have HG1 := hid hg1
  have HG2 := hid hg2
  have HF1 := hid hf1
  have HF2 := hid hf2
  have hposn : 0 < n := by rw [← hn]; exact List.length_pos_iff.2 hne
  have HMin1 : Hid (b.length = Nat.min n (64 - y)) := by
    have : n ≤ 64 - y := by omega
    show _ = _
    rw [hn]
    exact (Nat.min_eq_left this).symm
  obtain ⟨w1, hw1⟩ : ∃ w1, w1 = w.setRow (R.fr i) (splice cur1 y (vals b)).toArray := ⟨_, rfl⟩
  rw [← hw1] at hc1' hcC' hfin hr1 hg2 HFIN HK HR1 HG2
  obtain ⟨w2, hw2⟩ : ∃ w2, w2 = w1.setRow (R.cr i) (splice cur2 y (vals b)).toArray := ⟨_, rfl⟩
  rw [← hw2] at HFIN HK
  have HW1 := hid hw1
  have HW2 := hid hw2
  have t0 : ¬ ((i : Int) < 0) := by omega
  have t1 : (i : Int) < (d.n : Int) := by omega
  have t2 : ¬ ((y : Int) < 0) := by omega
  have t3 : ¬ (64 < (n : Int)) := by omega
  have t4 : (y : Int) ≤ 64 - (n : Int) := by omega
  have t5 : (y : Int) ≤ 64 := by omega
  have hy64 : y < 64 := by omega
  have t6 : ¬ (R.fc i = y) := by omega
  have t7 : ¬ (R.cc i = y) := by omega
  generalize hFc : R.fc i = fc at *
  generalize hCc : R.cc i = cc at *
  generalize hFr : R.fr i = fr at *
  generalize hCr : R.cr i = cr at *
  generalize hDN : d.n = N at *
  generalize R.F = FF at *
  generalize R.C = CB at *
  generalize R.kf = kf at *
  generalize R.kc = kc at *
  clear hfin hr hr1 hg1 hg2 hf1 hf2 hb1 hb2 k1 k2 hT hup hin hrc hw1 hw2 c2 c3 c4 c5 cf hpos hap hne hn hcap hFc hCc hFr hCr hDN h
  go_enter Try.func21, Try.ntmps21
  have tok : True := trivial
  have tok2 : True := trivial
  go_wp2_with (first | (have _t := tok; refine step_copy rfl _ _ rfl fr y (64 - y) (fc - y) a n cap rfl rfl _ 5 HG1.out b HMin1.out HR.out HF1.out ?_; intro w4 hw4; obtain rfl := hw4.trans HW1.out.symm; clear tok hw4) | (have _t := tok2; refine step_copy rfl _ _ rfl cr y (64 - y) (cc - y) a n cap rfl rfl _ 5 HG2.out b HMin1.out HR1.out HF2.out ?_; intro w4 hw4; obtain rfl := hw4.trans HW2.out.symm; clear tok2 hw4))
  go_ret
  exact ⟨rfl, HFIN.out, HK.out⟩
set_option maxHeartbeats 2000000 in
theorem rspoil_no {base : Nat} {w : World} {q : Nat} {R : RefMem} {d : Dk} (h : RefOk base w q R d) (z y : Int) (a : Option Addr) (n cap : Nat) (hm : n ≤ 1000000) (hl : d.lies z y n = false) :
    Calls Try.prog 21 #[.pointer (some ⟨q, 0, none⟩), .int .i64 z, .int .i64 y, .slice a n cap] w fun e w' => e = .returned (.bool false) ∧ w' = w := by
  obtain ⟨c0, c1, c2, c3, c4, c5, cf⟩ := h.cells
  have hdn : d.secs.length = d.n := rfl
  simp only [Dk.lies, Dk.has, hdn] at hl
  generalize d.n = N at *
  generalize R.ca = ca at *
  generalize R.kc = kc at *
  clear h c0 c2 c3 c4 c5 cf hdn
  by_cases h0 : z < 0
  · clear hl
    go_enter Try.func21, Try.ntmps21
    go_wp2_with fail
    go_ret
    exact ⟨rfl, rfl⟩
  by_cases h1 : (N : Int) ≤ z
  · clear hl
    go_enter Try.func21, Try.ntmps21
    go_wp2_with fail
    go_ret
    exact ⟨rfl, rfl⟩
  by_cases h2 : y < 0
  · clear hl
    go_enter Try.func21, Try.ntmps21
    go_wp2_with fail
    go_ret
    exact ⟨rfl, rfl⟩
  by_cases h3 : 64 < (n : Int)
  · clear hl
    go_enter Try.func21, Try.ntmps21
    go_wp2_with fail
    go_ret
    exact ⟨rfl, rfl⟩
  have h4 : 64 - (n : Int) < y := by
    have e1 : decide (0 ≤ z) = true := decide_eq_true (by omega)
    have e2 : decide (z < (N : Int)) = true := decide_eq_true (by omega)
    have e3 : decide (0 ≤ y) = true := decide_eq_true (by omega)
    rw [e1, e2, e3] at hl
    simp at hl
    omega
  clear hl
  go_enter Try.func21, Try.ntmps21
  go_wp2_with fail
  go_ret
  exact ⟨rfl, rfl⟩
end Go.Proofs.Ytoniolndoidkcaa
