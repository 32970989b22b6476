/- What Flush of the document's own disk does. Condition: fewer than a thousand million operations were done. -/
import Derived.Test.YtoniolndoidkcaaRefB
namespace Go.Proofs.Ytoniolndoidkcaa
open Go.RowKit
theorem clean_last (s : Sec) : (clean s).last = s.last := by simp [clean, Sec.last]
/-- A row that is laid into Flushed, and the mark is taken away. -/
theorem rflush_mem {base : Nat} {w w3 : World} {q i g cap' : Nat} {R : RefMem} {d : Dk} (h : RefOk base w q R d) (hi : i < d.n) (hb : RBuf w3 g (d.sec i).last) (hl : Below w.heap.size w w3) (hg : w.heap.size ≤ g) (hc : 64 ≤ cap') (hbase : base ≤ w.heap.size) :
    ∃ w5, w5 = (w3.setCell ⟨R.F, i, none⟩ (.slice (some ⟨g, 0, none⟩) 64 cap')).setCell ⟨R.D, i, none⟩ (.bool false) ∧ (∃ R', RefOk base w5 q R' (d.turned i (clean (d.sec i)))) ∧ RKeep base w w5 := by
  have hpos : 0 < d.n := by omega
  have h3 := h.below hl
  obtain ⟨a1, a2, a3, a4, a5, a6⟩ := h3.apart hpos
  have hs := h.ok.1.get i hi
  have rne : ∀ j, j < d.n → R.fr j ≠ R.F ∧ R.fr j ≠ R.D ∧ R.cr j ≠ R.F ∧ R.cr j ≠ R.D := fun j hj => ⟨(h3.rf j hj).1.type_ne (h3.tf hpos) (by decide), (h3.rf j hj).1.type_ne (h3.td hpos) (by decide), (h3.rc j hj).1.type_ne (h3.tf hpos) (by decide), (h3.rc j hj).1.type_ne (h3.td hpos) (by decide)⟩
  have gne : g ≠ R.F ∧ g ≠ R.D := ⟨hb.1.type_ne (h3.tf hpos) (by decide), hb.1.type_ne (h3.td hpos) (by decide)⟩
  have two : ∀ k, k ≠ R.F → k ≠ R.D → ((w3.setCell ⟨R.F, i, none⟩ (.slice (some ⟨g, 0, none⟩) 64 cap')).setCell ⟨R.D, i, none⟩ (.bool false)).heap[k]? = w3.heap[k]? := fun k h1 h2 => (Below.heap_setCell _ _ _ k h2).trans (Below.heap_setCell _ _ _ k h1)
  refine ⟨_, rfl, ⟨_, h3.upd i hi (clean (d.sec i)) (clean_ok hs) g cap' (R.cr i) (R.cc i) (two q a1 a3)
    (((h3.tf hpos).set i _).other _ _ a4)
    (((h3.tc hpos).kept (two R.C (Ne.symm a6) a5)).congr fun j _ => by by_cases e : j = i <;> simp [e])
    (((h3.td hpos).other ⟨R.F, i, none⟩ _ (Ne.symm a4)).set i _)
    (hb.kept (two _ gne.1 gne.2)) (by rw [clean_last]; exact (h3.rc i hi).kept (two _ (rne i hi).2.2.1 (rne i hi).2.2.2))
    (fun j hj _ => ⟨two _ (rne j hj).1 (rne j hj).2.1, two _ (rne j hj).2.2.1 (rne j hj).2.2.2⟩)
    ⟨by have := (h.rows_lt i hi).2; omega, fun j hj hji => ⟨by have := (h.rows_lt j hj).1; omega, by have := (h.rows_lt j hj).2; omega, fun e => (h.inj j i hj hi).2.2 e.symm, fun e => hji ((h.inj i j hi hj).2.1 e).symm⟩⟩ ⟨by omega, (h.low.2.2 i hi).2⟩ ⟨hc, (h.caps i hi).2⟩⟩, ?_⟩
  obtain ⟨xs, hx, _⟩ := h3.tf hpos
  obtain ⟨ys, hy, _⟩ := (h3.td hpos).other ⟨R.F, i, none⟩ (.slice (some ⟨g, 0, none⟩) 64 cap') (Ne.symm a4)
  have hl2 := h.low.2.1 hpos
  exact ((RKeep.of_below hl).trans (RKeep.of_set hx (by decide) (by decide) hl2.1 i _)).trans (RKeep.of_set hy (by decide) (by decide) hl2.2.2 i _)
theorem flushTo_turned (d : Dk) (l : List Sec) (i : Nat) (hi : i < l.length) : ({ d with secs := flushTo l i } : Dk).turned i (clean (({ d with secs := flushTo l i } : Dk).sec i)) = { d with secs := flushTo l (i + 1) } := by
  simp only [Dk.turned, Dk.sec, flushTo_get l i hi, flushTo_set l i hi]
set_option maxHeartbeats 2000000 in
theorem rflush_ok {base : Nat} {w : World} {q : Nat} {R : RefMem} {d : Dk} (h : RefOk base w q R d) (hdead : d.dead = false) (hops : d.ops < 1000000000) (hmay : d.may = true) (hbase : base ≤ w.heap.size) :
    Calls Try.prog 17 #[.pointer (some ⟨q, 0, none⟩)] w fun e w' => e = .returned (.int .i64 0) ∧ (∃ R', RefOk base w' q R' { d.spent with secs := d.secs.map clean }) ∧ RKeep base w w' := by
  obtain ⟨c0, c1, c2, c3, c4, c5, cf⟩ := h.cells
  rw [hdead] at c5
  have HH := hid h
  have h776 : d.secs.length ≤ 776 := h.ok.2
  clear h c0 c1 c2 c3 c4 cf hdead
  go_enter Try.func17, Try.ntmps17
  go_wp2_with fail
  refine (rop_any HH.out hops).mono ?_
  rintro e w2 ⟨rfl, z, h2, ho⟩
  rw [hmay]
  have HO := hid ho
  have HS2 := hid (Nat.le_trans hbase ho.size)
  have H2 : Hid (∃ R', RefOk base w2 q R' { d.spent with secs := flushTo d.secs 0 }) := ⟨_, by rw [flushTo_zero, ← spent_kept]; exact h2⟩
  clear h2 ho c5
  go_wp2_with fail
  go_loopg [3] d.secs.length (fun k v wr => ∃ i : Nat, i + k = d.secs.length ∧ v = .int .i64 (i : Int) ∧ (∃ R', RefOk base wr q R' { d.spent with secs := flushTo d.secs i }) ∧ RKeep base w2 wr)
  case atStart => exact ⟨0, by omega, rfl, H2.out, RKeep.refl _ _⟩
  case round =>
    obtain ⟨i, hk, rfl, ⟨R1, h1⟩, hkeep⟩ := hrel
    have hnn : ({ d.spent with secs := flushTo d.secs i } : Dk).n = d.secs.length := by simp only [Dk.n]; exact flushTo_len d.secs i (by omega)
    have HKP := hid hkeep
    obtain ⟨e0, e1, e2, _, _, _, _⟩ := h1.cells
    rw [hnn] at e0 e1 e2
    have H1 := hid h1
    by_cases hi : i < d.secs.length
    · have hi2 : i < ({ d.spent with secs := flushTo d.secs i } : Dk).n := by omega
      have hpos : 0 < ({ d.spent with secs := flushTo d.secs i } : Dk).n := by omega
      have hii : (i : Int) < (d.secs.length : Int) := by omega
      have hrow := (h1.rc i hi2)
      have hrow2 : Row wr.drew (some ⟨R1.cr i, 0, none⟩) (({ d.spent with secs := flushTo d.secs i } : Dk).sec i).last := hrow.row
      obtain ⟨g, cap', w3, hrun, hbuf, hbel, hgg, hcc⟩ := append_nil wr.drew 23 _ _ (R1.cc i) hrow2 hrow.2.1
      have h1d := h1.drew
      obtain ⟨w5, hw5, hok5, hk5⟩ := rflush_mem h1d hi2 hbuf hbel hgg hcc (Nat.le_trans HS2.out hkeep.size)
      rw [flushTo_turned d.spent d.secs i hi] at hok5
      have h3 := h1d.below hbel
      obtain ⟨a1, a2, a3, a4, a5, a6⟩ := h3.apart hpos
      obtain ⟨f0, f1, f2, _, _, _, _⟩ := h3.cells
      obtain ⟨hfa, hca, hda⟩ := h1.ad hpos
      simp only [hfa, hca, hda, hnn] at e0 e1 e2 f0 f1 f2
      have kC0 := (h1.tc hpos).cell i hi2
      have kC := (h3.tc hpos).cell i hi2
      have kF := (h3.tf hpos).cell i hi2
      have kFF := (h3.tf hpos).frozen i
      have tD4 := (h3.td hpos).other ⟨R1.F, i, none⟩ (.slice (some ⟨g, 0, none⟩) 64 cap') (Ne.symm a4)
      have jD := tD4.cell i hi2
      have jFD := tD4.frozen i
      have tC4 := (h3.tc hpos).other ⟨R1.F, i, none⟩ (.slice (some ⟨g, 0, none⟩) 64 cap') (Ne.symm a6)
      have tC5 := tC4.other ⟨R1.D, i, none⟩ (.bool false) a5
      have kC4 := tC4.cell i hi2
      have kC5 := tC5.cell i hi2
      simp only at kC0 kC kF kFF jD jFD kC4 kC5
      have cellq : ∀ (W W' : World) (j : Nat), W'.heap[q]? = W.heap[q]? → W'.cell? ⟨q, j, none⟩ = W.cell? ⟨q, j, none⟩ := fun W W' j e => by simp only [World.cell?, e]
      have q4 : (w3.setCell ⟨R1.F, i, none⟩ (.slice (some ⟨g, 0, none⟩) 64 cap')).heap[q]? = w3.heap[q]? := Below.heap_setCell _ _ _ q a1
      have q5 : ((w3.setCell ⟨R1.F, i, none⟩ (.slice (some ⟨g, 0, none⟩) 64 cap')).setCell ⟨R1.D, i, none⟩ (.bool false)).heap[q]? = w3.heap[q]? := (Below.heap_setCell _ _ _ q a3).trans q4
      have HOK := hid hok5
      have HK5 := hid hk5
      have HW5 := hid hw5
      have HRUN := hid hrun
      have S2 := hid (And.intro (show wr.drew.cell? ⟨q, 0, none⟩ = _ from e0) (And.intro (show wr.drew.cell? ⟨q, 1, none⟩ = _ from e1) (And.intro (show wr.drew.cell? ⟨q, 2, none⟩ = _ from e2) (show wr.drew.cell? ⟨R1.C, i, none⟩ = _ from kC0))))
      have S3 := hid (And.intro f0 (And.intro f1 (And.intro f2 kC)))
      have S4 := hid (And.intro ((cellq _ _ 0 q4).trans f0) (And.intro ((cellq _ _ 1 q4).trans f1) (And.intro ((cellq _ _ 2 q4).trans f2) kC4)))
      have S5 := hid (And.intro ((cellq _ _ 0 q5).trans f0) (And.intro ((cellq _ _ 1 q5).trans f1) (And.intro ((cellq _ _ 2 q5).trans f2) kC5)))
      clear hok5 hk5 hw5 hrun h1 h1d h3 hrow hrow2 hbuf hbel hgg hcc f0 f1 f2 kC0 kC kC4 kC5 tD4 tC4 tC5 cellq q4 q5 hfa hca hda hnn a1 a2 a3 a4 a5 a6 hi2 hpos hkeep H1 e0 e2
      generalize (({ d.spent with secs := flushTo d.secs i } : Dk).sec i).waits = wt at *
      generalize hNN : d.secs.length = N at *
      generalize R1.F = FB at *
      generalize R1.C = CB at *
      generalize R1.D = DB at *
      generalize R1.kf = kf at *
      generalize R1.kc = kc at *
      generalize R1.kd = kd at *
      generalize R1.cr i = cri at *
      generalize R1.cc i = cci at *
      go_wp2_with fail
      go_region_held_law (fun W => W.cell? ⟨q, 0, none⟩ = some (.slice (some ⟨FB, 0, none⟩) N kf) ∧ W.cell? ⟨q, 1, none⟩ = some (.slice (some ⟨CB, 0, none⟩) N kc) ∧ W.cell? ⟨q, 2, none⟩ = some (.slice (some ⟨DB, 0, none⟩) N kd) ∧ W.cell? ⟨CB, i, none⟩ = some (.slice (some ⟨cri, 0, none⟩) 64 cci)) (first | exact S2.out | exact S3.out | exact S4.out | exact S5.out) (refine step_app_region rfl _ _ rfl _ _ rfl rfl _ w3 HRUN.out ?_)
      go_wp2_with fail
      go_roundg (gk - 1)
      case measure => omega
      case rel =>
        rw [← HW5.out]
        exact ⟨i + 1, by omega, by go_num, HOK.out, HKP.out.trans ((RKeep.of_below (Below.refl _ _).drew).trans HK5.out)⟩
    · obtain hie : i = d.secs.length := by omega
      have hii : ¬ (i : Int) < (d.secs.length : Int) := by omega
      have HIE := hid hie
      clear hie h1 hkeep e0 e2 hnn
      generalize hNN : d.secs.length = N at *
      generalize R1.ca = ca at *
      generalize R1.kc = kc at *
      go_wp2_with fail
      go_ret
      refine ⟨rfl, ⟨R1, ?_⟩, (HH.out.keep_head HO.out).trans HKP.out⟩
      have := H1.out
      rw [HIE.out, ← hNN, flushTo_all] at this
      exact this
set_option maxHeartbeats 2000000 in
theorem rflush_burnt {base : Nat} {w : World} {q : Nat} {R : RefMem} {d : Dk} (h : RefOk base w q R d) (hdead : d.dead = false) (hops : d.ops < 1000000000) (hmay : d.may = false) :
    Calls Try.prog 17 #[.pointer (some ⟨q, 0, none⟩)] w fun e w' => e = .returned (.int .i64 15) ∧ (∃ R', RefOk base w' q R' d.spent) ∧ RKeep base w w' := by
  obtain ⟨c0, c1, c2, c3, c4, c5, cf⟩ := h.cells
  rw [hdead] at c5
  have HH := hid h
  clear h c0 c1 c2 c3 c4 cf hdead
  go_enter Try.func17, Try.ntmps17
  go_wp2_with fail
  refine (rop_any HH.out hops).mono ?_
  rintro e w2 ⟨rfl, z, h2, ho⟩
  rw [hmay]
  have H2 := hid h2
  have HO := hid ho
  clear h2 ho
  go_wp2_with fail
  go_ret
  exact ⟨rfl, ⟨_, H2.out⟩, HH.out.keep_head HO.out⟩
set_option maxHeartbeats 2000000 in
theorem rflush_dead {base : Nat} {w : World} {q : Nat} {R : RefMem} {d : Dk} (h : RefOk base w q R d) (hdead : d.dead = true) :
    Calls Try.prog 17 #[.pointer (some ⟨q, 0, none⟩)] w fun e w' => e = .returned (.int .i64 15) ∧ w' = w := by
  obtain ⟨c0, c1, c2, c3, c4, c5, cf⟩ := h.cells
  rw [hdead] at c5
  clear h c0 c1 c2 c3 c4 cf hdead
  go_enter Try.func17, Try.ntmps17
  go_wp2_with fail
  go_ret
  exact ⟨rfl, rfl⟩
theorem rflush_any {base : Nat} {w : World} {q : Nat} {R : RefMem} {d : Dk} (h : RefOk base w q R d) (hops : d.ops < 1000000000) (hbase : base ≤ w.heap.size) :
    Calls Try.prog 17 #[.pointer (some ⟨q, 0, none⟩)] w fun e w' => e = .returned (.int .i64 d.flush.2) ∧ (∃ R', RefOk base w' q R' d.flush.1) ∧ RKeep base w w' := by
  cases hd : d.dead
  · cases hm : d.may
    · rw [Dk.flush, if_neg (by simp [hd]), if_pos hm]
      exact rflush_burnt h hd hops hm
    · rw [Dk.flush, if_neg (by simp [hd]), if_neg (by simp [hm])]
      exact rflush_ok h hd hops hm hbase
  · refine (rflush_dead h hd).mono ?_
    rintro e w' ⟨rfl, rfl⟩
    rw [Dk.flush, if_pos hd]
    exact ⟨rfl, ⟨_, h⟩, RKeep.refl _ _⟩
end Go.Proofs.Ytoniolndoidkcaa
