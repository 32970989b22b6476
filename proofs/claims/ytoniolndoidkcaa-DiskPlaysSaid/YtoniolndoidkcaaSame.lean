/- The statement's own Same finds the program's disk and the document's alike where both are the same disk. No condition. -/
import Derived.Test.YtoniolndoidkcaaRefA
import Derived.BigQuiet
namespace Go.Proofs.Ytoniolndoidkcaa
open Go.RowKit
set_option maxHeartbeats 4000000 in
theorem same_any {base : Nat} {w : World} {q p m : Nat} {R : RefMem} {d : Dk} (hd : DiskAt w q p d) (h : RefOk base w m R d) :
    Calls Try.prog 23 #[.pointer (some ⟨q, 0, none⟩), .pointer (some ⟨m, 0, none⟩)] w fun e w' => e = .returned (.bool true) ∧ Below w.heap.size w w' := by
  obtain ⟨c0, c1, c2, c3, c4, c5, cf⟩ := h.cells
  have HD := hid hd
  have HH := hid h
  have k11 := fun n => sectors_any (hd.kept (w' := w.drewN n) rfl rfl)
  have k27 := fun n => dead_any (hd.kept (w' := w.drewN n) rfl rfl)
  have k26 := fun n => ops_any (hd.kept (w' := w.drewN n) rfl rfl)
  have hdn : d.secs.length = d.n := rfl
  rw [hdn] at k11
  have h776 := h.ok.2
  clear c0 c2 c3 cf hd h hdn
  generalize (d.ops : Int) = O at *
  cases hdead : d.dead
  · rw [hdead] at c5 k27
    have HDE := hid hdead
    clear hdead
    go_enter Try.func23, Try.ntmps23
    go_wp2_with fail
    go_quiet (first | exact Calls.quiet_of_same (k11 _) | exact Calls.quiet_of_same (k27 _) | exact Calls.quiet_of_same (k26 _))
    have HB0 : Hid (Below w.heap.size w (w.drewN nq)) := ⟨rfl, rfl, rfl, Nat.le_refl _, fun _ _ => rfl⟩
    generalize w.drewN nq = v at HB0 ⊢
    go_wp2_with fail
    go_loopg [5, 6, 7] d.n (fun t v5 v6 v7 wr => ∃ i : Nat, i + t = d.n ∧ v5 = .int .i64 (i : Int) ∧ Below w.heap.size w wr)
    case atStart => exact ⟨0, by omega, rfl, HB0.out⟩
    case round =>
      obtain ⟨i, hk, rfl, hb⟩ := hrel
      have HBi := hid hb
      have hh := HH.out.below hb
      obtain ⟨_, e1, _, _, _, e5, _⟩ := hh.cells
      rw [HDE.out] at e5
      by_cases hi : i < d.n
      · have hii : (i : Int) < (d.n : Int) := by omega
        have HDi := hid (HD.out.below hb)
        have HHi := hid hh
        clear hh hb
        go_wp2_with fail
        refine (read_ok (i := i) HDi.out HDE.out hi).mono ?_
        rintro e w5 ⟨g, rfl, hg, hb5, -⟩
        have hh5 := HHi.out.below hb5
        obtain ⟨_, f1, _, _, _, f5, _⟩ := hh5.cells
        rw [HDE.out] at f5
        rw [(hh5.ad (by omega)).2.1] at f1
        have kC := (hh5.tc (by omega)).cell i hi
        have hrc := hh5.rc i hi
        have hs1 : ∀ n, (convert 23 9 (.slice (some ⟨g, 0, none⟩) 64 64)).run Try.prog (w5.drewN n) = .ok (.string (strOf (d.sec i).last)) (w5.drewN n) := fun n => str_any (w5.drewN n) _ _ 64 64 hrc.2.1 (show Row (w5.drewN n) _ _ from hg.row)
        have hs2 : ∀ n, (convert 23 9 (.slice (some ⟨R.cr i, 0, none⟩) 64 (R.cc i))).run Try.prog (w5.drewN n) = .ok (.string (strOf (d.sec i).last)) (w5.drewN n) := fun n => str_any (w5.drewN n) _ _ 64 _ hrc.2.1 (show Row (w5.drewN n) _ _ from hrc.row)
        have HB5 := hid (HBi.out.trans (hb5.mono HBi.out.size))
        generalize strOf (d.sec i).last = SS at *
        clear hg hb5 hh5 hrc e1 e5 k11 k27 k26
        generalize R.C = CB at *
        generalize R.cr i = cri at *
        generalize R.cc i = cci at *
        generalize R.kc = kc at *
        go_wp2_with fail
        go_quiet (fail)
        have HB6 : Hid (Below w.heap.size w (w5.drewN nq)) := ⟨HB5.out.os, HB5.out.tape, HB5.out.output, HB5.out.size, HB5.out.block⟩
        generalize w5.drewN nq = v6 at HB6 ⊢
        go_wp2_with fail
        go_roundg (gk - 1)
        case measure => omega
        case rel => exact ⟨i + 1, by omega, by go_num, HB6.out⟩
      · have hii : ¬ (i : Int) < (d.n : Int) := by omega
        clear hh hb k11 k27 k26
        go_wp2_with fail
        go_ret
        exact ⟨rfl, HBi.out⟩
  · rw [hdead] at c5 k27
    have HDE := hid hdead
    clear hdead
    go_enter Try.func23, Try.ntmps23
    go_wp2_with fail
    go_quiet (first | exact Calls.quiet_of_same (k11 _) | exact Calls.quiet_of_same (k27 _) | exact Calls.quiet_of_same (k26 _))
    have HB0 : Hid (Below w.heap.size w (w.drewN nq)) := ⟨rfl, rfl, rfl, Nat.le_refl _, fun _ _ => rfl⟩
    generalize w.drewN nq = v at HB0 ⊢
    go_wp2_with fail
    go_loopg [5, 6, 7] d.n (fun t v5 v6 v7 wr => ∃ i : Nat, i + t = d.n ∧ v5 = .int .i64 (i : Int) ∧ Below w.heap.size w wr)
    case atStart => exact ⟨0, by omega, rfl, HB0.out⟩
    case round =>
      obtain ⟨i, hk, rfl, hb⟩ := hrel
      have HBi := hid hb
      have hh := HH.out.below hb
      obtain ⟨_, e1, _, _, _, e5, _⟩ := hh.cells
      rw [HDE.out] at e5
      by_cases hi : i < d.n
      · have hii : (i : Int) < (d.n : Int) := by omega
        have HDi := hid (HD.out.below hb)
        clear hh hb k11 k27 k26
        go_wp2_with fail
        refine (read_dead HDi.out HDE.out (i : Int)).mono ?_
        rintro e w5 ⟨rfl, rfl⟩
        go_wp2_with fail
        go_roundg (gk - 1)
        case measure => omega
        case rel => exact ⟨i + 1, by omega, by go_num, HBi.out⟩
      · have hii : ¬ (i : Int) < (d.n : Int) := by omega
        clear hh hb k11 k27 k26
        go_wp2_with fail
        go_ret
        exact ⟨rfl, HBi.out⟩
end Go.Proofs.Ytoniolndoidkcaa
