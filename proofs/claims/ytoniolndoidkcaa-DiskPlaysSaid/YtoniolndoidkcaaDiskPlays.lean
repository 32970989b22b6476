/- DiskPlays: whatever is written, flushed, turned, and whenever power goes, the disk is what the document's own disk is, and so is what a crash leaves; for every input. -/
import Derived.Test.YtoniolndoidkcaaRefF
import Derived.Test.YtoniolndoidkcaaSame
import Derived.Test.YtoniolndoidkcaaDeeds
namespace Go.Proofs.Ytoniolndoidkcaa
open Go.ChangeShapes Go.WideShapes Go.ChangeAt Go.RowKit
theorem rspoil_any {base : Nat} {w : World} {q : Nat} {R : RefMem} {d : Dk} (h : RefOk base w q R d) (z y : Int) (a : Option Addr) (b : List Nat) (n cap : Nat) (hr : Row w a b) (hn : b.length = n) (hne : b ≠ []) (hap : ∀ x, a = some x → x.block < base) (hm : n ≤ 1000000) :
    Calls Try.prog 21 #[.pointer (some ⟨q, 0, none⟩), .int .i64 z, .int .i64 y, .slice a n cap] w fun e w' => e = .returned (.bool (d.lies z y n)) ∧ (∃ R', RefOk base w' q R' (d.spoil? z y b)) ∧ RKeep base w w' := by
  subst hn
  unfold Dk.spoil?
  cases hl : d.lies z y b.length
  · refine (rspoil_no h z y a b.length cap hm hl).mono ?_
    rintro e w' ⟨rfl, rfl⟩
    exact ⟨rfl, ⟨R, h⟩, RKeep.refl _ _⟩
  · simp only [Dk.lies, Dk.has, Bool.and_eq_true, decide_eq_true_eq] at hl
    obtain ⟨⟨h1, h2⟩, h3, h4⟩ := hl
    obtain ⟨i, rfl⟩ : ∃ i : Nat, z = (i : Int) := ⟨z.toNat, by omega⟩
    obtain ⟨j, rfl⟩ : ∃ j : Nat, y = (j : Int) := ⟨y.toNat, by omega⟩
    refine (rspoil_ok h (show i < d.n by simp only [Dk.n]; omega) a b b.length cap hr rfl hne hap (by omega)).mono ?_
    rintro e w' ⟨rfl, h5, h6⟩
    exact ⟨rfl, ⟨R, h5⟩, h6⟩
theorem write_ops (d : Dk) (z : Int) (b : List Nat) : (d.write z b).1.ops ≤ d.ops + 1 := by
  unfold Dk.write
  split
  · simp
  · split
    · simp
    · have : d.spent.ops ≤ d.ops + 1 := by unfold Dk.spent; split <;> simp
      split
      · exact this
      · exact this
theorem flush_ops (d : Dk) : d.flush.1.ops ≤ d.ops + 1 := by
  unfold Dk.flush
  split
  · simp
  · have : d.spent.ops ≤ d.ops + 1 := by unfold Dk.spent; split <;> simp
    split
    · exact this
    · exact this
theorem spoil_ops (d : Dk) (z y : Int) (b : List Nat) : (d.spoil? z y b).ops = d.ops := by
  unfold Dk.spoil?
  split <;> rfl
theorem Deeds.below {w w' : World} {a : Option Addr} {ls : List Dd} (h : Deeds w a ls) (hb : Below w.heap.size w w') : Deeds w' a ls := by
  rcases h with h | ⟨b, off, ha, hlt, hc⟩
  · exact .inl h
  · refine .inr ⟨b, off, ha, Nat.lt_of_lt_of_le hlt hb.size, fun i hi => ?_⟩
    obtain ⟨h0, h1, h2, h3, h4, h5⟩ := hc i hi
    have cell : ∀ k, w'.cell? ⟨b, k, none⟩ = w.cell? ⟨b, k, none⟩ := fun k => hb.cell (p := ⟨b, k, none⟩) hlt
    exact ⟨(cell _).trans h0, (cell _).trans h1, (cell _).trans h2, (cell _).trans h3, h4.below hb, h5⟩
set_option maxRecDepth 40000 in
set_option maxHeartbeats 8000000 in
theorem diskPlays_walk (w : World) (z : Int) (a1 : Option Addr) (M cap1 : Nat) (ls : List Dd) (hds : Deeds w a1 ls) (hM : ls.length = M) (a2 : Option Addr) (n2 cap2 : Nat) (c : List Nat) (hr2 : Row w a2 c) (hn2 : c.length = n2) :
    Calls Try.prog 3 #[.int .i64 z, .slice a1 M cap1, .slice a2 n2 cap2] w fun e w' => e = .returned (.bool true) ∧ Below w.heap.size w w' := by
  have HDS := hid hds
  have HM := hid hM
  have HR2 := hid hr2
  have HN2 := hid hn2
  clear hds hM hr2 hn2
  go_enter Try.func3, Try.ntmps3
  go_wp2_with fail
  refine (awake_any w).mono ?_
  rintro e w2 ⟨rfl, hb2⟩
  have HBw2 := hid hb2
  clear hb2
  go_wp2_with fail
  by_cases hz : z < 0 ∨ 776 < z
  · refine (new_no w2 z hz).mono ?_
    rintro e w3 ⟨rfl, rfl⟩
    by_cases h0 : z < 0
    · clear hz
      go_wp2_with fail
      go_ret
      exact ⟨rfl, HBw2.out⟩
    · have h1 : 776 < z := by omega
      clear hz
      go_wp2_with fail
      go_ret
      exact ⟨rfl, HBw2.out⟩
  obtain ⟨n, rfl⟩ : ∃ n : Nat, z = (n : Int) := ⟨z.toNat, by omega⟩
  have h776 : n ≤ 776 := by omega
  clear hz
  refine (new_any w2 n h776).mono ?_
  rintro e w3 ⟨q, rfl, p, hd, hb, hq, hp⟩
  have HBw3 := hid (HBw2.out.trans (hb.mono HBw2.out.size))
  have HDw3 := hid hd
  have HQ := hid (Nat.le_trans HBw2.out.size hq)
  have HP := hid (Nat.le_trans HBw2.out.size hp)
  clear hd hb hq hp HBw2
  have t0 : ¬ ((n : Int) < 0) := by omega
  have t1 : ¬ (776 < (n : Int)) := by omega
  have hfl : (fresh n).secs.length = n := by simp [fresh]
  by_cases g1 : (40 : Int) < (n : Int)
  · clear HDS
    go_wp2_with fail
    refine (sectors_any HDw3.out).mono ?_
    rintro e w4 ⟨rfl, rfl⟩
    rw [hfl]
    go_wp2_with fail
    go_ret
    exact ⟨rfl, HBw3.out⟩
  by_cases g2 : (150 : Int) < (M : Int)
  · clear HDS
    go_wp2_with fail
    refine (sectors_any HDw3.out).mono ?_
    rintro e w4 ⟨rfl, rfl⟩
    rw [hfl]
    go_wp2_with fail
    go_ret
    exact ⟨rfl, HBw3.out⟩
  by_cases g3 : (200 : Int) < (n2 : Int)
  · clear HDS
    go_wp2_with fail
    refine (sectors_any HDw3.out).mono ?_
    rintro e w4 ⟨rfl, rfl⟩
    rw [hfl]
    go_wp2_with fail
    go_ret
    exact ⟨rfl, HBw3.out⟩
  clear hfl
  go_wp2_with fail
  refine (rnew_any w3 n h776).mono ?_
  rintro e w4 ⟨m, rfl, ⟨R0, hR0⟩, hb4⟩
  have HBw4 := hid (HBw3.out.trans (hb4.mono HBw3.out.size))
  have HDw4 := hid (HDw3.out.below hb4)
  have HRw4 := hid (hR0.mono HBw3.out.size)
  clear hR0 hb4 HDw3 HBw3
  go_wp2_with fail
  go_loopg [10, 11, 12, 13, 14, 15, 16] M (fun t v10 v11 v12 v13 v14 v15 v16 wr => ∃ (i : Nat) (d : Dk) (R : RefMem), i + t = M ∧ v10 = .int .i64 (i : Int) ∧ d.ops ≤ i ∧ DiskAt wr q p d ∧ RefOk w.heap.size wr m R d ∧ Below w.heap.size w wr)
  case atStart => exact ⟨0, fresh n, R0, by omega, rfl, Nat.le_refl _, HDw4.out, HRw4.out, HBw4.out⟩
  case round =>
    obtain ⟨i, d, R, hk, rfl, hops, hd, hR, hb⟩ := hrel
    have HBi := hid hb
    have HDi := hid hd
    have HRi := hid hR
    by_cases hi : i < M
    · have hii : (i : Int) < (M : Int) := by omega
      obtain ⟨b0, o0, rfl, _, hcs⟩ := (HDS.out.below hb).at_ (by intro e; rw [← HM.out, e] at hi; simp at hi)
      obtain ⟨e0, e1, e2, e3, hrow, hxn⟩ := hcs i (by rw [HM.out]; exact hi)
      have HXN := hid hxn
      obtain ⟨hrow0⟩ : Nonempty (Row w (ls.getD i dd0).a (ls.getD i dd0).b) := by
        obtain ⟨b1, o1, _, _, h7⟩ := HDS.out.at_ (by intro e; rw [← HM.out, e] at hi; simp at hi)
        exact ⟨(h7 i (by rw [HM.out]; exact hi)).2.2.2.2.1⟩
      have HROW := hid hrow0
      generalize ls.getD i dd0 = xd at *
      obtain ⟨xdo, xn, xat, xb, xa, xc⟩ := xd
      simp only at e0 e1 e2 e3 HROW HXN
      generalize hnb : xb.length = nb at *
      have HNB := hid hnb
      clear hd hR hb hcs hrow hrow0 hxn hnb
      by_cases h200 : (200 : Int) < (nb : Int)
      · go_wp2_with fail
        go_ret
        exact ⟨rfl, (HBi.out.alloc HBi.out.size _)⟩
      have hopsi : d.ops < 1000000000 := by omega
      have hba := HBi.out.alloc HBi.out.size (.cells #[.int .i64 xdo, .int .i64 xn, .int .i64 xat, .slice xa nb xc] 33)
      have hbo := below_one wr (.cells #[.int .i64 xdo, .int .i64 xn, .int .i64 xat, .slice xa nb xc] 33)
      have hdd := heap_alloc_new wr (.cells #[.int .i64 xdo, .int .i64 xn, .int .i64 xat, .slice xa nb xc] 33)
      have HBA := hid hba
      have HDA := hid (HDi.out.below hbo)
      have HRA := hid (HRi.out.below hbo)
      have HDD := hid hdd
      clear hba hbo hdd
      by_cases hdo3 : xdo ≤ 3
      · by_cases h3 : xdo = 3
        · subst h3
          go_wp2_with fail
          generalize wr.alloc (.cells #[.int .i64 3, .int .i64 xn, .int .i64 xat, .slice xa nb xc] 33) = V0 at HBA HDA HRA HDD ⊢
          generalize wr.heap.size = dd at HDD ⊢
          refine (full_any V0 xa xb nb xc (HROW.out.below HBA.out) HNB.out (by omega)).mono ?_
          rintro e w5 ⟨g, rfl, hg, hb5, -⟩
          have HB5 := hid (HBA.out.trans (hb5.mono HBA.out.size))
          have HD5 := hid (HDA.out.below hb5)
          have HR5 := hid (HRA.out.below hb5)
          have HDD5 := hid ((hb5.block dd (Array.getElem?_eq_some_iff.1 HDD.out).1).trans HDD.out)
          have HG := hid hg
          have x0 : w5.cell? ⟨dd, 0, none⟩ = some (.int .i64 3) := by rw [cell_of_row w5 dd 0 _ 33 (0, 0) HDD5.out]; rfl
          have x1 : w5.cell? ⟨dd, 1, none⟩ = some (.int .i64 xn) := by rw [cell_of_row w5 dd 1 _ 33 (0, 0) HDD5.out]; rfl
          have x3 : w5.cell? ⟨dd, 3, none⟩ = some (.slice xa nb xc) := by rw [cell_of_row w5 dd 3 _ 33 (0, 0) HDD5.out]; rfl
          have HNE : Hid (dd ≠ q ∧ dd ≠ p) := by
            obtain ⟨zz, h1, h2, _⟩ := HD5.out
            refine ⟨fun e => ?_, fun e => ?_⟩
            · have h3 := HDD5.out; rw [e, h1] at h3; simp at h3
            · have h3 := HDD5.out; rw [e, h2] at h3; simp at h3
          clear hg hb5 HBA HDA HRA HDD
          have hkW : Calls Try.prog 14 #[.pointer (some ⟨q, 0, none⟩), .int .i64 xn, .slice xa nb xc] w5.drew fun e w' => e = .returned (.int .i64 (d.write xn xb).2) ∧ DiskAt w' q p (d.write xn xb).1 ∧ Only q (some p) w5.drew w' ∧ w'.cell? ⟨dd, 1, none⟩ = some (.int .i64 xn) := by
            refine (write_any (HD5.out.kept (w' := w5.drew) rfl rfl) hopsi xn xa xb nb xc (HROW.out.below HB5.out.drew) HNB.out).mono ?_
            rintro e w' ⟨rfl, h1, h2⟩
            refine ⟨rfl, h1, h2, ?_⟩
            rw [cell_of_row w' dd 1 _ 33 (0, 0) ((h2.block dd (Array.getElem?_eq_some_iff.1 HDD5.out).1 HNE.out.1 (fun e => HNE.out.2 (by simpa using e))).trans HDD5.out)]
            rfl
          have hkR : ∀ w', Only q (some p) w5.drew w' → Calls Try.prog 15 #[.pointer (some ⟨m, 0, none⟩), .int .i64 xn, .slice xa nb xc] w' fun e w'' => e = .returned (.int .i64 (d.write xn xb).2) ∧ (∃ R', RefOk w.heap.size w'' m R' (d.write xn xb).1) ∧ RKeep w.heap.size w' w'' ∧ w''.cell? ⟨dd, 1, none⟩ = some (.int .i64 xn) := by
            intro w' h2
            have hh : w'.heap[dd]? = _ := (h2.block dd (Array.getElem?_eq_some_iff.1 HDD5.out).1 HNE.out.1 (fun e => HNE.out.2 (by simpa using e))).trans HDD5.out
            refine (rwrite_any ((HR5.out.drew).only (HD5.out.kept (w' := w5.drew) rfl rfl) h2) hopsi xn xa xb nb xc (HROW.out.below (HB5.out.drew.trans (h2.low HQ.out HP.out HB5.out.size))) HNB.out (Nat.le_trans HB5.out.size h2.size)).mono ?_
            rintro e w'' ⟨rfl, h3, h4⟩
            refine ⟨rfl, h3, h4, ?_⟩
            rw [cell_of_row w'' dd 1 _ 33 (0, 0) ((h4.disk dd _ 33 hh (by decide)).trans hh)]
            rfl
          have HOPW := hid (write_ops d xn (xb))
          have HKW := hid hkW
          have s5 : w5.drew.cell? ⟨dd, 1, none⟩ = some (.int .i64 xn) := x1
          have S5 := hid s5
          generalize (d.write xn xb).1 = d8 at *
          generalize (d.write xn xb).2 = ans at *
          clear hkW s5
          go_wp2_with fail
          go_region_held (fun W => W.cell? ⟨dd, 1, none⟩ = some (.int .i64 xn)) (first | assumption | exact S5.out) (first
            | (go_at_call 14; refine HKW.out.mono ?_; rintro e w6 ⟨rfl, hd6, ho6, s6⟩)
            | (go_at_call 15; refine (hkR _ ?_).mono ?_; assumption; rintro e w7 ⟨rfl, hr7, hk7, s7⟩))
          have hb6 := HB5.out.trans ((Below.refl _ w5).drew.trans (ho6.low HQ.out HP.out HB5.out.size))
          have HBT := hid (hb6.trans (hk7.below hb6.size))
          have HDT := hid (hd6.rkeep hk7)
          have HRT := hid hr7
          have HOP : Hid (d8.ops ≤ i + 1) := Nat.le_trans HOPW.out (by omega)
          clear hkR hd6 ho6 s6 hr7 hk7 s7 hb6 HKW S5 HOPW
          have hops8 := HOP.out
          obtain ⟨R8, hR8⟩ := HRT.out
          have HR8 := hid hR8
          clear hR8
          go_wp2_with fail
          refine (same_any HDT.out HR8.out).mono ?_
          rintro e v1 ⟨rfl, hb1⟩
          have HB1 := hid (HBT.out.trans (hb1.mono HBT.out.size))
          have HD1 := hid (HDT.out.below hb1)
          have HR1 := hid (HR8.out.below hb1)
          clear hb1 HBT HDT HR8 HRT
          go_wp2_with fail
          refine (crash_any HD1.out a2 c n2 cap2 (HR2.out.below HB1.out) HN2.out (by omega)).mono ?_
          rintro e v2 ⟨x, rfl, xp, hx, hb2, -, -⟩
          have HB2 := hid (HB1.out.trans (hb2.mono HB1.out.size))
          have HD2 := hid (HD1.out.below hb2)
          have HR22 := hid (HR1.out.below hb2)
          have HX2 := hid hx
          clear hb2 hx HB1 HD1 HR1
          go_wp2_with fail
          refine (rcrash_any HR22.out a2 c n2 cap2 (HR2.out.below HB2.out) HN2.out (by omega)).mono ?_
          rintro e v3 ⟨y, rfl, ⟨Ry, hy⟩, hb3⟩
          have HB3 := hid (HB2.out.trans (hb3.mono HB2.out.size))
          have HD3 := hid (HD2.out.below hb3)
          have HR3 := hid (HR22.out.below hb3)
          have HX3 := hid (HX2.out.below hb3)
          have HY3 := hid hy
          clear hb3 hy HB2 HD2 HR22 HX2
          go_wp2_with fail
          refine (same_any HX3.out HY3.out).mono ?_
          rintro e v4 ⟨rfl, hb4⟩
          have HB4 := hid (HB3.out.trans (hb4.mono HB3.out.size))
          have HD4 := hid (HD3.out.below hb4)
          have HR4 := hid (HR3.out.below hb4)
          clear hb4 HB3 HD3 HR3 HX3 HY3
          go_wp2_with fail
          go_roundg (gk - 1)
          case measure => omega
          case rel => exact ⟨i + 1, _, R8, by omega, by go_num, hops8, HD4.out, HR4.out, HB4.out⟩
        · go_wp2_with fail
          generalize wr.alloc (.cells #[.int .i64 xdo, .int .i64 xn, .int .i64 xat, .slice xa nb xc] 33) = V0 at HBA HDA HRA HDD ⊢
          generalize wr.heap.size = dd at HDD ⊢
          refine (full_any V0 xa xb nb xc (HROW.out.below HBA.out) HNB.out (by omega)).mono ?_
          rintro e w5 ⟨g, rfl, hg, hb5, -⟩
          have HB5 := hid (HBA.out.trans (hb5.mono HBA.out.size))
          have HD5 := hid (HDA.out.below hb5)
          have HR5 := hid (HRA.out.below hb5)
          have HDD5 := hid ((hb5.block dd (Array.getElem?_eq_some_iff.1 HDD.out).1).trans HDD.out)
          have HG := hid hg
          have x0 : w5.cell? ⟨dd, 0, none⟩ = some (.int .i64 xdo) := by rw [cell_of_row w5 dd 0 _ 33 (0, 0) HDD5.out]; rfl
          have x1 : w5.cell? ⟨dd, 1, none⟩ = some (.int .i64 xn) := by rw [cell_of_row w5 dd 1 _ 33 (0, 0) HDD5.out]; rfl
          have x3 : w5.cell? ⟨dd, 3, none⟩ = some (.slice xa nb xc) := by rw [cell_of_row w5 dd 3 _ 33 (0, 0) HDD5.out]; rfl
          have HNE : Hid (dd ≠ q ∧ dd ≠ p) := by
            obtain ⟨zz, h1, h2, _⟩ := HD5.out
            refine ⟨fun e => ?_, fun e => ?_⟩
            · have h3 := HDD5.out; rw [e, h1] at h3; simp at h3
            · have h3 := HDD5.out; rw [e, h2] at h3; simp at h3
          clear hg hb5 HBA HDA HRA HDD
          have h3b : (xdo == 3) = false := by simp [h3]
          have HFB := hid (bytes_full HROW.out.1)
          have hkW : Calls Try.prog 14 #[.pointer (some ⟨q, 0, none⟩), .int .i64 xn, .slice (some ⟨g, 0, none⟩) 64 64] w5.drew fun e w' => e = .returned (.int .i64 (d.write xn (full xb)).2) ∧ DiskAt w' q p (d.write xn (full xb)).1 ∧ Only q (some p) w5.drew w' ∧ w'.cell? ⟨dd, 1, none⟩ = some (.int .i64 xn) := by
            refine (write_any (HD5.out.kept (w' := w5.drew) rfl rfl) hopsi xn (some ⟨g, 0, none⟩) (full xb) 64 64 (show Row w5.drew _ _ from HG.out.row) HFB.out.1).mono ?_
            rintro e w' ⟨rfl, h1, h2⟩
            refine ⟨rfl, h1, h2, ?_⟩
            rw [cell_of_row w' dd 1 _ 33 (0, 0) ((h2.block dd (Array.getElem?_eq_some_iff.1 HDD5.out).1 HNE.out.1 (fun e => HNE.out.2 (by simpa using e))).trans HDD5.out)]
            rfl
          have hkR : ∀ w', Only q (some p) w5.drew w' → Calls Try.prog 15 #[.pointer (some ⟨m, 0, none⟩), .int .i64 xn, .slice (some ⟨g, 0, none⟩) 64 64] w' fun e w'' => e = .returned (.int .i64 (d.write xn (full xb)).2) ∧ (∃ R', RefOk w.heap.size w'' m R' (d.write xn (full xb)).1) ∧ RKeep w.heap.size w' w'' ∧ w''.cell? ⟨dd, 1, none⟩ = some (.int .i64 xn) := by
            intro w' h2
            have hh : w'.heap[dd]? = _ := (h2.block dd (Array.getElem?_eq_some_iff.1 HDD5.out).1 HNE.out.1 (fun e => HNE.out.2 (by simpa using e))).trans HDD5.out
            refine (rwrite_any ((HR5.out.drew).only (HD5.out.kept (w' := w5.drew) rfl rfl) h2) hopsi xn (some ⟨g, 0, none⟩) (full xb) 64 64 (((HG.out.kept (w' := w5.drew) rfl).kept_disk (HD5.out.kept (w' := w5.drew) rfl rfl) h2).row) HFB.out.1 (Nat.le_trans HB5.out.size h2.size)).mono ?_
            rintro e w'' ⟨rfl, h3, h4⟩
            refine ⟨rfl, h3, h4, ?_⟩
            rw [cell_of_row w'' dd 1 _ 33 (0, 0) ((h4.disk dd _ 33 hh (by decide)).trans hh)]
            rfl
          have HOPW := hid (write_ops d xn ((full xb)))
          have HKW := hid hkW
          have s5 : w5.drew.cell? ⟨dd, 1, none⟩ = some (.int .i64 xn) := x1
          have S5 := hid s5
          generalize (d.write xn (full xb)).1 = d8 at *
          generalize (d.write xn (full xb)).2 = ans at *
          clear hkW s5
          go_wp2_with fail
          go_region_held (fun W => W.cell? ⟨dd, 1, none⟩ = some (.int .i64 xn)) (first | assumption | exact S5.out) (first
            | (go_at_call 14; refine HKW.out.mono ?_; rintro e w6 ⟨rfl, hd6, ho6, s6⟩)
            | (go_at_call 15; refine (hkR _ ?_).mono ?_; assumption; rintro e w7 ⟨rfl, hr7, hk7, s7⟩))
          have hb6 := HB5.out.trans ((Below.refl _ w5).drew.trans (ho6.low HQ.out HP.out HB5.out.size))
          have HBT := hid (hb6.trans (hk7.below hb6.size))
          have HDT := hid (hd6.rkeep hk7)
          have HRT := hid hr7
          have HOP : Hid (d8.ops ≤ i + 1) := Nat.le_trans HOPW.out (by omega)
          clear hkR hd6 ho6 s6 hr7 hk7 s7 hb6 HKW S5 HOPW
          have hops8 := HOP.out
          obtain ⟨R8, hR8⟩ := HRT.out
          have HR8 := hid hR8
          clear hR8
          go_wp2_with fail
          refine (same_any HDT.out HR8.out).mono ?_
          rintro e v1 ⟨rfl, hb1⟩
          have HB1 := hid (HBT.out.trans (hb1.mono HBT.out.size))
          have HD1 := hid (HDT.out.below hb1)
          have HR1 := hid (HR8.out.below hb1)
          clear hb1 HBT HDT HR8 HRT
          go_wp2_with fail
          refine (crash_any HD1.out a2 c n2 cap2 (HR2.out.below HB1.out) HN2.out (by omega)).mono ?_
          rintro e v2 ⟨x, rfl, xp, hx, hb2, -, -⟩
          have HB2 := hid (HB1.out.trans (hb2.mono HB1.out.size))
          have HD2 := hid (HD1.out.below hb2)
          have HR22 := hid (HR1.out.below hb2)
          have HX2 := hid hx
          clear hb2 hx HB1 HD1 HR1
          go_wp2_with fail
          refine (rcrash_any HR22.out a2 c n2 cap2 (HR2.out.below HB2.out) HN2.out (by omega)).mono ?_
          rintro e v3 ⟨y, rfl, ⟨Ry, hy⟩, hb3⟩
          have HB3 := hid (HB2.out.trans (hb3.mono HB2.out.size))
          have HD3 := hid (HD2.out.below hb3)
          have HR3 := hid (HR22.out.below hb3)
          have HX3 := hid (HX2.out.below hb3)
          have HY3 := hid hy
          clear hb3 hy HB2 HD2 HR22 HX2
          go_wp2_with fail
          refine (same_any HX3.out HY3.out).mono ?_
          rintro e v4 ⟨rfl, hb4⟩
          have HB4 := hid (HB3.out.trans (hb4.mono HB3.out.size))
          have HD4 := hid (HD3.out.below hb4)
          have HR4 := hid (HR3.out.below hb4)
          clear hb4 HB3 HD3 HR3 HX3 HY3
          go_wp2_with fail
          go_roundg (gk - 1)
          case measure => omega
          case rel => exact ⟨i + 1, _, R8, by omega, by go_num, hops8, HD4.out, HR4.out, HB4.out⟩
      have h3n : ¬ xdo = 3 := by omega
      by_cases h4 : xdo = 4
      · subst h4
        go_wp2_with fail
        generalize wr.alloc (.cells #[.int .i64 4, .int .i64 xn, .int .i64 xat, .slice xa nb xc] 33) = V0 at HBA HDA HRA HDD ⊢
        generalize wr.heap.size = dd at HDD ⊢
        refine (flush_any HDA.out hopsi).mono ?_
        rintro e w5 ⟨rfl, hd5, ho5⟩
        have HB5 := hid (HBA.out.trans (ho5.low HQ.out HP.out HBA.out.size))
        have HR5 := hid (HRA.out.only HDA.out ho5)
        have HD5 := hid hd5
        have hkR := rflush_any HR5.out hopsi HB5.out.size
        have HKR := hid hkR
        have HOPW := hid (flush_ops d)
        clear hd5 ho5 hkR
        generalize d.flush.1 = d8 at *
        generalize d.flush.2 = ans at *
        go_wp2_with fail
        refine HKR.out.mono ?_
        rintro e w6 ⟨rfl, hr6, hk6⟩
        have HBT := hid (HB5.out.trans (hk6.below HB5.out.size))
        have HDT := hid (HD5.out.rkeep hk6)
        have HRT := hid hr6
        have HOP : Hid (d8.ops ≤ i + 1) := Nat.le_trans HOPW.out (by omega)
        clear hr6 hk6 HB5 HR5 HD5 HKR HOPW HBA HDA HRA HDD
        have hops8 := HOP.out
        obtain ⟨R8, hR8⟩ := HRT.out
        have HR8 := hid hR8
        clear hR8
        go_wp2_with fail
        refine (same_any HDT.out HR8.out).mono ?_
        rintro e v1 ⟨rfl, hb1⟩
        have HB1 := hid (HBT.out.trans (hb1.mono HBT.out.size))
        have HD1 := hid (HDT.out.below hb1)
        have HR1 := hid (HR8.out.below hb1)
        clear hb1 HBT HDT HR8 HRT
        go_wp2_with fail
        refine (crash_any HD1.out a2 c n2 cap2 (HR2.out.below HB1.out) HN2.out (by omega)).mono ?_
        rintro e v2 ⟨x, rfl, xp, hx, hb2, -, -⟩
        have HB2 := hid (HB1.out.trans (hb2.mono HB1.out.size))
        have HD2 := hid (HD1.out.below hb2)
        have HR22 := hid (HR1.out.below hb2)
        have HX2 := hid hx
        clear hb2 hx HB1 HD1 HR1
        go_wp2_with fail
        refine (rcrash_any HR22.out a2 c n2 cap2 (HR2.out.below HB2.out) HN2.out (by omega)).mono ?_
        rintro e v3 ⟨y, rfl, ⟨Ry, hy⟩, hb3⟩
        have HB3 := hid (HB2.out.trans (hb3.mono HB2.out.size))
        have HD3 := hid (HD2.out.below hb3)
        have HR3 := hid (HR22.out.below hb3)
        have HX3 := hid (HX2.out.below hb3)
        have HY3 := hid hy
        clear hb3 hy HB2 HD2 HR22 HX2
        go_wp2_with fail
        refine (same_any HX3.out HY3.out).mono ?_
        rintro e v4 ⟨rfl, hb4⟩
        have HB4 := hid (HB3.out.trans (hb4.mono HB3.out.size))
        have HD4 := hid (HD3.out.below hb4)
        have HR4 := hid (HR3.out.below hb4)
        clear hb4 HB3 HD3 HR3 HX3 HY3
        go_wp2_with fail
        go_roundg (gk - 1)
        case measure => omega
        case rel => exact ⟨i + 1, _, R8, by omega, by go_num, hops8, HD4.out, HR4.out, HB4.out⟩
      by_cases h5 : xdo = 5
      · subst h5
        go_wp2_with fail
        generalize wr.alloc (.cells #[.int .i64 5, .int .i64 xn, .int .i64 xat, .slice xa nb xc] 33) = V0 at HBA HDA HRA HDD ⊢
        generalize wr.heap.size = dd at HDD ⊢
        cases hdead : d.dead
        · cases hhas : d.has xn
          · refine (read_arg HDA.out hdead xn hhas).mono ?_
            rintro e w5 ⟨rfl, rfl⟩
            have hs0 := str_any w5 none [] 0 0 rfl (row_nil w5 none)
            generalize strOf [] = SS at hs0
            have x1 : w5.cell? ⟨dd, 1, none⟩ = some (.int .i64 xn) := by rw [cell_of_row w5 dd 1 _ 33 (0, 0) HDD.out]; rfl
            go_wp2_with fail
            refine (rread_arg HRA.out hdead xn hhas).mono ?_
            rintro e w6 ⟨rfl, rfl⟩
            have HBT := HBA
            have HDT := HDA
            have HRT := hid (show ∃ R', RefOk w.heap.size w6 m R' d from ⟨R, HRA.out⟩)
            have HOP : Hid (d.ops ≤ i + 1) := by show _ ≤ _; omega
            clear HBA HDA HRA HDD
            have hops8 := HOP.out
            obtain ⟨R8, hR8⟩ := HRT.out
            have HR8 := hid hR8
            clear hR8
            go_wp2_with fail
            refine (same_any HDT.out HR8.out).mono ?_
            rintro e v1 ⟨rfl, hb1⟩
            have HB1 := hid (HBT.out.trans (hb1.mono HBT.out.size))
            have HD1 := hid (HDT.out.below hb1)
            have HR1 := hid (HR8.out.below hb1)
            clear hb1 HBT HDT HR8 HRT
            go_wp2_with fail
            refine (crash_any HD1.out a2 c n2 cap2 (HR2.out.below HB1.out) HN2.out (by omega)).mono ?_
            rintro e v2 ⟨x, rfl, xp, hx, hb2, -, -⟩
            have HB2 := hid (HB1.out.trans (hb2.mono HB1.out.size))
            have HD2 := hid (HD1.out.below hb2)
            have HR22 := hid (HR1.out.below hb2)
            have HX2 := hid hx
            clear hb2 hx HB1 HD1 HR1
            go_wp2_with fail
            refine (rcrash_any HR22.out a2 c n2 cap2 (HR2.out.below HB2.out) HN2.out (by omega)).mono ?_
            rintro e v3 ⟨y, rfl, ⟨Ry, hy⟩, hb3⟩
            have HB3 := hid (HB2.out.trans (hb3.mono HB2.out.size))
            have HD3 := hid (HD2.out.below hb3)
            have HR3 := hid (HR22.out.below hb3)
            have HX3 := hid (HX2.out.below hb3)
            have HY3 := hid hy
            clear hb3 hy HB2 HD2 HR22 HX2
            go_wp2_with fail
            refine (same_any HX3.out HY3.out).mono ?_
            rintro e v4 ⟨rfl, hb4⟩
            have HB4 := hid (HB3.out.trans (hb4.mono HB3.out.size))
            have HD4 := hid (HD3.out.below hb4)
            have HR4 := hid (HR3.out.below hb4)
            clear hb4 HB3 HD3 HR3 HX3 HY3
            go_wp2_with fail
            go_roundg (gk - 1)
            case measure => omega
            case rel => exact ⟨i + 1, _, R8, by omega, by go_num, hops8, HD4.out, HR4.out, HB4.out⟩
          · obtain ⟨kx, rfl⟩ : ∃ kx : Nat, xn = (kx : Int) := ⟨xn.toNat, by simp [Dk.has] at hhas; omega⟩
            have hkx : kx < d.n := by simp [Dk.has] at hhas; exact hhas
            clear hhas
            refine (read_ok (i := kx) HDA.out hdead hkx).mono ?_
            rintro e w5 ⟨g, rfl, hg, hb5, -⟩
            have HB5 := hid (HBA.out.trans (hb5.mono HBA.out.size))
            have HD5 := hid (HDA.out.below hb5)
            have HR5 := hid (HRA.out.below hb5)
            have hdd5 := (hb5.block dd (Array.getElem?_eq_some_iff.1 HDD.out).1).trans HDD.out
            have x1 : w5.cell? ⟨dd, 1, none⟩ = some (.int .i64 (kx : Int)) := by rw [cell_of_row w5 dd 1 _ 33 (0, 0) hdd5]; rfl
            have hrc := HR5.out.rc kx hkx
            have hs1 : (convert 23 9 (.slice (some ⟨g, 0, none⟩) 64 64)).run Try.prog w5 = .ok (.string (strOf (d.sec kx).last)) w5 := str_any w5 _ _ 64 64 hrc.2.1 hg.row
            have hs2 : (convert 23 9 (.slice (some ⟨R.cr kx, 0, none⟩) 64 (R.cc kx))).run Try.prog w5 = .ok (.string (strOf (d.sec kx).last)) w5 := str_any w5 _ _ 64 _ hrc.2.1 hrc.row
            generalize strOf (d.sec kx).last = SS at hs1 hs2
            have hkR := rread_ok HR5.out hdead hkx
            have HKR := hid hkR
            clear hg hb5 hdd5 hrc hkR HBA HDA HRA HDD
            go_wp2_with fail
            refine HKR.out.mono ?_
            rintro e w6 ⟨rfl, rfl⟩
            generalize R.cr kx = crk at hs2 ⊢
            generalize R.cc kx = cck at hs2 ⊢
            have HBT := HB5
            have HDT := HD5
            have HRT := hid (show ∃ R', RefOk w.heap.size w6 m R' d from ⟨R, HR5.out⟩)
            have HOP : Hid (d.ops ≤ i + 1) := by show _ ≤ _; omega
            clear HB5 HD5 HR5 HKR
            have hops8 := HOP.out
            obtain ⟨R8, hR8⟩ := HRT.out
            have HR8 := hid hR8
            clear hR8
            go_wp2_with fail
            refine (same_any HDT.out HR8.out).mono ?_
            rintro e v1 ⟨rfl, hb1⟩
            have HB1 := hid (HBT.out.trans (hb1.mono HBT.out.size))
            have HD1 := hid (HDT.out.below hb1)
            have HR1 := hid (HR8.out.below hb1)
            clear hb1 HBT HDT HR8 HRT
            go_wp2_with fail
            refine (crash_any HD1.out a2 c n2 cap2 (HR2.out.below HB1.out) HN2.out (by omega)).mono ?_
            rintro e v2 ⟨x, rfl, xp, hx, hb2, -, -⟩
            have HB2 := hid (HB1.out.trans (hb2.mono HB1.out.size))
            have HD2 := hid (HD1.out.below hb2)
            have HR22 := hid (HR1.out.below hb2)
            have HX2 := hid hx
            clear hb2 hx HB1 HD1 HR1
            go_wp2_with fail
            refine (rcrash_any HR22.out a2 c n2 cap2 (HR2.out.below HB2.out) HN2.out (by omega)).mono ?_
            rintro e v3 ⟨y, rfl, ⟨Ry, hy⟩, hb3⟩
            have HB3 := hid (HB2.out.trans (hb3.mono HB2.out.size))
            have HD3 := hid (HD2.out.below hb3)
            have HR3 := hid (HR22.out.below hb3)
            have HX3 := hid (HX2.out.below hb3)
            have HY3 := hid hy
            clear hb3 hy HB2 HD2 HR22 HX2
            go_wp2_with fail
            refine (same_any HX3.out HY3.out).mono ?_
            rintro e v4 ⟨rfl, hb4⟩
            have HB4 := hid (HB3.out.trans (hb4.mono HB3.out.size))
            have HD4 := hid (HD3.out.below hb4)
            have HR4 := hid (HR3.out.below hb4)
            clear hb4 HB3 HD3 HR3 HX3 HY3
            go_wp2_with fail
            go_roundg (gk - 1)
            case measure => omega
            case rel => exact ⟨i + 1, _, R8, by omega, by go_num, hops8, HD4.out, HR4.out, HB4.out⟩
        · refine (read_dead HDA.out hdead xn).mono ?_
          rintro e w5 ⟨rfl, rfl⟩
          have hs0 := str_any w5 none [] 0 0 rfl (row_nil w5 none)
          generalize strOf [] = SS at hs0
          have x1 : w5.cell? ⟨dd, 1, none⟩ = some (.int .i64 xn) := by rw [cell_of_row w5 dd 1 _ 33 (0, 0) HDD.out]; rfl
          go_wp2_with fail
          refine (rread_dead HRA.out hdead xn).mono ?_
          rintro e w6 ⟨rfl, rfl⟩
          have HBT := HBA
          have HDT := HDA
          have HRT := hid (show ∃ R', RefOk w.heap.size w6 m R' d from ⟨R, HRA.out⟩)
          have HOP : Hid (d.ops ≤ i + 1) := by show _ ≤ _; omega
          clear HBA HDA HRA HDD
          have hops8 := HOP.out
          obtain ⟨R8, hR8⟩ := HRT.out
          have HR8 := hid hR8
          clear hR8
          go_wp2_with fail
          refine (same_any HDT.out HR8.out).mono ?_
          rintro e v1 ⟨rfl, hb1⟩
          have HB1 := hid (HBT.out.trans (hb1.mono HBT.out.size))
          have HD1 := hid (HDT.out.below hb1)
          have HR1 := hid (HR8.out.below hb1)
          clear hb1 HBT HDT HR8 HRT
          go_wp2_with fail
          refine (crash_any HD1.out a2 c n2 cap2 (HR2.out.below HB1.out) HN2.out (by omega)).mono ?_
          rintro e v2 ⟨x, rfl, xp, hx, hb2, -, -⟩
          have HB2 := hid (HB1.out.trans (hb2.mono HB1.out.size))
          have HD2 := hid (HD1.out.below hb2)
          have HR22 := hid (HR1.out.below hb2)
          have HX2 := hid hx
          clear hb2 hx HB1 HD1 HR1
          go_wp2_with fail
          refine (rcrash_any HR22.out a2 c n2 cap2 (HR2.out.below HB2.out) HN2.out (by omega)).mono ?_
          rintro e v3 ⟨y, rfl, ⟨Ry, hy⟩, hb3⟩
          have HB3 := hid (HB2.out.trans (hb3.mono HB2.out.size))
          have HD3 := hid (HD2.out.below hb3)
          have HR3 := hid (HR22.out.below hb3)
          have HX3 := hid (HX2.out.below hb3)
          have HY3 := hid hy
          clear hb3 hy HB2 HD2 HR22 HX2
          go_wp2_with fail
          refine (same_any HX3.out HY3.out).mono ?_
          rintro e v4 ⟨rfl, hb4⟩
          have HB4 := hid (HB3.out.trans (hb4.mono HB3.out.size))
          have HD4 := hid (HD3.out.below hb4)
          have HR4 := hid (HR3.out.below hb4)
          clear hb4 HB3 HD3 HR3 HX3 HY3
          go_wp2_with fail
          go_roundg (gk - 1)
          case measure => omega
          case rel => exact ⟨i + 1, _, R8, by omega, by go_num, hops8, HD4.out, HR4.out, HB4.out⟩
      by_cases h6 : xdo = 6
      · subst h6
        go_wp2_with fail
        generalize wr.alloc (.cells #[.int .i64 6, .int .i64 xn, .int .i64 xat, .slice xa nb xc] 33) = V0 at HBA HDA HRA HDD ⊢
        generalize wr.heap.size = dd at HDD ⊢
        by_cases hnb0 : nb = 0
        · subst hnb0
          have x3 : V0.cell? ⟨dd, 3, none⟩ = some (.slice xa 0 xc) := by rw [cell_of_row V0 dd 3 _ 33 (0, 0) HDD.out]; rfl
          go_quiet (fail)
          have HBT : Hid (Below w.heap.size w (V0.drewN nq)) := ⟨HBA.out.os, HBA.out.tape, HBA.out.output, HBA.out.size, HBA.out.block⟩
          have HDT := hid (HDA.out.kept (w' := V0.drewN nq) rfl rfl)
          have HRT := hid (show ∃ R', RefOk w.heap.size (V0.drewN nq) m R' d from ⟨R, HRA.out.kept fun _ _ _ _ _ => rfl⟩)
          have HOP : Hid (d.ops ≤ i + 1) := by show _ ≤ _; omega
          clear HBA HDA HRA HDD x3
          generalize V0.drewN nq = V9 at HBT HDT HRT ⊢
          have hops8 := HOP.out
          obtain ⟨R8, hR8⟩ := HRT.out
          have HR8 := hid hR8
          clear hR8
          go_wp2_with fail
          refine (same_any HDT.out HR8.out).mono ?_
          rintro e v1 ⟨rfl, hb1⟩
          have HB1 := hid (HBT.out.trans (hb1.mono HBT.out.size))
          have HD1 := hid (HDT.out.below hb1)
          have HR1 := hid (HR8.out.below hb1)
          clear hb1 HBT HDT HR8 HRT
          go_wp2_with fail
          refine (crash_any HD1.out a2 c n2 cap2 (HR2.out.below HB1.out) HN2.out (by omega)).mono ?_
          rintro e v2 ⟨x, rfl, xp, hx, hb2, -, -⟩
          have HB2 := hid (HB1.out.trans (hb2.mono HB1.out.size))
          have HD2 := hid (HD1.out.below hb2)
          have HR22 := hid (HR1.out.below hb2)
          have HX2 := hid hx
          clear hb2 hx HB1 HD1 HR1
          go_wp2_with fail
          refine (rcrash_any HR22.out a2 c n2 cap2 (HR2.out.below HB2.out) HN2.out (by omega)).mono ?_
          rintro e v3 ⟨y, rfl, ⟨Ry, hy⟩, hb3⟩
          have HB3 := hid (HB2.out.trans (hb3.mono HB2.out.size))
          have HD3 := hid (HD2.out.below hb3)
          have HR3 := hid (HR22.out.below hb3)
          have HX3 := hid (HX2.out.below hb3)
          have HY3 := hid hy
          clear hb3 hy HB2 HD2 HR22 HX2
          go_wp2_with fail
          refine (same_any HX3.out HY3.out).mono ?_
          rintro e v4 ⟨rfl, hb4⟩
          have HB4 := hid (HB3.out.trans (hb4.mono HB3.out.size))
          have HD4 := hid (HD3.out.below hb4)
          have HR4 := hid (HR3.out.below hb4)
          clear hb4 HB3 HD3 HR3 HX3 HY3
          go_wp2_with fail
          go_roundg (gk - 1)
          case measure => omega
          case rel => exact ⟨i + 1, _, R8, by omega, by go_num, hops8, HD4.out, HR4.out, HB4.out⟩
        · have HNEL : Hid (xb ≠ []) := fun e => by have := HNB.out; rw [e] at this; simp at this; omega
          have hfar : ∀ v, xa = some v → v.block < w.heap.size := by
            rcases HROW.out.2 with h | ⟨b1, o1, h8, hlt, _⟩
            · exact absurd h HNEL.out
            · intro v hv
              rw [h8] at hv
              simp at hv
              rw [← hv]
              exact hlt
          have HNE : Hid (dd ≠ q ∧ dd ≠ p) := by
            obtain ⟨zz, h1, h2, _⟩ := HDA.out
            refine ⟨fun e => ?_, fun e => ?_⟩
            · have h3 := HDD.out; rw [e, h1] at h3; simp at h3
            · have h3 := HDD.out; rw [e, h2] at h3; simp at h3
          have hcells : ∀ w' : World, w'.heap[dd]? = some (.cells #[.int .i64 6, .int .i64 xn, .int .i64 xat, .slice xa nb xc] 33 (0, 0)) → w'.cell? ⟨dd, 1, none⟩ = some (.int .i64 xn) ∧ w'.cell? ⟨dd, 2, none⟩ = some (.int .i64 xat) ∧ w'.cell? ⟨dd, 3, none⟩ = some (.slice xa nb xc) := fun w' h => ⟨by rw [cell_of_row w' dd 1 _ 33 (0, 0) h]; rfl, by rw [cell_of_row w' dd 2 _ 33 (0, 0) h]; rfl, by rw [cell_of_row w' dd 3 _ 33 (0, 0) h]; rfl⟩
          have hkW : Calls Try.prog 20 #[.pointer (some ⟨q, 0, none⟩), .int .i64 xn, .int .i64 xat, .slice xa nb xc] V0.drew fun e w' => e = .returned (.bool (d.lies xn xat nb)) ∧ DiskAt w' q p (d.spoil? xn xat xb) ∧ Only q (some p) V0.drew w' ∧ w'.cell? ⟨dd, 1, none⟩ = some (.int .i64 xn) ∧ w'.cell? ⟨dd, 2, none⟩ = some (.int .i64 xat) ∧ w'.cell? ⟨dd, 3, none⟩ = some (.slice xa nb xc) := by
            refine (spoil_any (HDA.out.kept (w' := V0.drew) rfl rfl) xn xat xa xb nb xc (HROW.out.below HBA.out.drew) HNB.out HNEL.out (fun v hv => by have := hfar v hv; have := HP.out; omega) (by omega)).mono ?_
            rintro e w' ⟨rfl, h1, h2⟩
            exact ⟨rfl, h1, h2, hcells w' ((h2.block dd (Array.getElem?_eq_some_iff.1 HDD.out).1 HNE.out.1 (fun e => HNE.out.2 (by simpa using e))).trans HDD.out)⟩
          have hkR : ∀ w', Only q (some p) V0.drew w' → Calls Try.prog 21 #[.pointer (some ⟨m, 0, none⟩), .int .i64 xn, .int .i64 xat, .slice xa nb xc] w' fun e w'' => e = .returned (.bool (d.lies xn xat nb)) ∧ (∃ R', RefOk w.heap.size w'' m R' (d.spoil? xn xat xb)) ∧ RKeep w.heap.size w' w'' ∧ w''.cell? ⟨dd, 1, none⟩ = some (.int .i64 xn) ∧ w''.cell? ⟨dd, 2, none⟩ = some (.int .i64 xat) ∧ w''.cell? ⟨dd, 3, none⟩ = some (.slice xa nb xc) := by
            intro w' h2
            have hh : w'.heap[dd]? = _ := (h2.block dd (Array.getElem?_eq_some_iff.1 HDD.out).1 HNE.out.1 (fun e => HNE.out.2 (by simpa using e))).trans HDD.out
            refine (rspoil_any ((HRA.out.drew).only (HDA.out.kept (w' := V0.drew) rfl rfl) h2) xn xat xa xb nb xc (HROW.out.below (HBA.out.drew.trans (h2.low HQ.out HP.out HBA.out.size))) HNB.out HNEL.out hfar (by omega)).mono ?_
            rintro e w'' ⟨rfl, h3, h4⟩
            exact ⟨rfl, h3, h4, hcells w'' ((h4.disk dd _ 33 hh (by decide)).trans hh)⟩
          have HOPW := hid (spoil_ops d xn xat xb)
          have HKW := hid hkW
          have S5 := hid (hcells V0.drew HDD.out)
          generalize d.spoil? xn xat xb = d8 at *
          generalize d.lies xn xat nb = ans at *
          clear hkW hcells hfar
          obtain ⟨nc, rfl⟩ : ∃ nc, nb = nc + 1 := ⟨nb - 1, by omega⟩
          go_region_held (fun W => W.cell? ⟨dd, 1, none⟩ = some (.int .i64 xn) ∧ W.cell? ⟨dd, 2, none⟩ = some (.int .i64 xat) ∧ W.cell? ⟨dd, 3, none⟩ = some (.slice xa (nc + 1) xc)) (first | assumption | exact S5.out) (first
            | (go_at_call 20; refine HKW.out.mono ?_; rintro e w6 ⟨rfl, hd6, ho6, s6⟩)
            | (go_at_call 21; refine (hkR _ ?_).mono ?_; assumption; rintro e w7 ⟨rfl, hr7, hk7, s7⟩))
          have hb6 := HBA.out.trans ((Below.refl _ V0).drew.trans (ho6.low HQ.out HP.out HBA.out.size))
          have HBT := hid (hb6.trans (hk7.below hb6.size))
          have HDT := hid (hd6.rkeep hk7)
          have HRT := hid hr7
          have HOP : Hid (d8.ops ≤ i + 1) := by show _ ≤ _; rw [HOPW.out]; omega
          clear hkR hd6 ho6 s6 hr7 hk7 s7 hb6 HKW S5 HOPW HBA HDA HRA HDD HNE HNEL
          have hops8 := HOP.out
          obtain ⟨R8, hR8⟩ := HRT.out
          have HR8 := hid hR8
          clear hR8
          go_wp2_with fail
          refine (same_any HDT.out HR8.out).mono ?_
          rintro e v1 ⟨rfl, hb1⟩
          have HB1 := hid (HBT.out.trans (hb1.mono HBT.out.size))
          have HD1 := hid (HDT.out.below hb1)
          have HR1 := hid (HR8.out.below hb1)
          clear hb1 HBT HDT HR8 HRT
          go_wp2_with fail
          refine (crash_any HD1.out a2 c n2 cap2 (HR2.out.below HB1.out) HN2.out (by omega)).mono ?_
          rintro e v2 ⟨x, rfl, xp, hx, hb2, -, -⟩
          have HB2 := hid (HB1.out.trans (hb2.mono HB1.out.size))
          have HD2 := hid (HD1.out.below hb2)
          have HR22 := hid (HR1.out.below hb2)
          have HX2 := hid hx
          clear hb2 hx HB1 HD1 HR1
          go_wp2_with fail
          refine (rcrash_any HR22.out a2 c n2 cap2 (HR2.out.below HB2.out) HN2.out (by omega)).mono ?_
          rintro e v3 ⟨y, rfl, ⟨Ry, hy⟩, hb3⟩
          have HB3 := hid (HB2.out.trans (hb3.mono HB2.out.size))
          have HD3 := hid (HD2.out.below hb3)
          have HR3 := hid (HR22.out.below hb3)
          have HX3 := hid (HX2.out.below hb3)
          have HY3 := hid hy
          clear hb3 hy HB2 HD2 HR22 HX2
          go_wp2_with fail
          refine (same_any HX3.out HY3.out).mono ?_
          rintro e v4 ⟨rfl, hb4⟩
          have HB4 := hid (HB3.out.trans (hb4.mono HB3.out.size))
          have HD4 := hid (HD3.out.below hb4)
          have HR4 := hid (HR3.out.below hb4)
          clear hb4 HB3 HD3 HR3 HX3 HY3
          go_wp2_with fail
          go_roundg (gk - 1)
          case measure => omega
          case rel => exact ⟨i + 1, _, R8, by omega, by go_num, hops8, HD4.out, HR4.out, HB4.out⟩
      have u4 : (xdo == 4) = false := by simp [h4]
      have u5 : (xdo == 5) = false := by simp [h5]
      have u6 : (xdo == 6) = false := by simp [h6]
      go_wp2_with fail
      generalize wr.alloc (.cells #[.int .i64 xdo, .int .i64 xn, .int .i64 xat, .slice xa nb xc] 33) = V0 at HBA HDA HRA HDD ⊢
      generalize wr.heap.size = dd at HDD ⊢
      by_cases hx0 : 0 ≤ xn
      · refine (fuse_any HDA.out xn HXN.out.2).mono ?_
        rintro e w5 ⟨rfl, hd5, ho5⟩
        have HB5 := hid (HBA.out.trans ((ho5.weak (o := some p)).low HQ.out HP.out HBA.out.size))
        have HD5 := hid hd5
        have hR5 := HRA.out.only HDA.out (ho5.weak (o := some p))
        have hdd5 := (ho5.block dd (Array.getElem?_eq_some_iff.1 HDD.out).1 (fun e => by
          obtain ⟨zz, h1, _⟩ := HDA.out
          have h3 := HDD.out; rw [e, h1] at h3; simp at h3) (by simp)).trans HDD.out
        have x1 : w5.cell? ⟨dd, 1, none⟩ = some (.int .i64 xn) := by rw [cell_of_row w5 dd 1 _ 33 (0, 0) hdd5]; rfl
        obtain ⟨_, _, _, f3, _, _, ff⟩ := hR5.cells
        have ff3 := ff 3
        have hon := only_setCell w5 m 3 none (.int .i64 xn)
        have hT := hR5.turn (d' := d.fused xn) (z := xn) hon rfl (by rw [heap_setCell_same _ _ _ _ _ _ hR5.head]; simp [Dk.fused]) (fun e => by simp [Dk.fused, hx0] at e) (fun k e => by simp [Dk.fused, hx0] at e; have := HXN.out.2; omega)
        have hkh := hR5.keep_head hon
        have HBT := hid (HB5.out.trans (hkh.below HB5.out.size))
        have HDT := hid (HD5.out.rkeep hkh)
        have HRT := hid (show ∃ R', RefOk w.heap.size (w5.setCell ⟨m, 3, none⟩ (.int .i64 xn)) m R' (d.fused xn) from ⟨_, hT⟩)
        have HOP : Hid ((d.fused xn).ops ≤ i + 1) := by show d.ops ≤ _; omega
        generalize R.z = Rz at f3
        have hmx : max xn (-1) = xn := by omega
        clear hd5 ho5 hdd5 hR5 ff hon hT hkh HBA HDA HRA HDD HB5 HD5
        go_wp2_with fail
        have hops8 := HOP.out
        obtain ⟨R8, hR8⟩ := HRT.out
        have HR8 := hid hR8
        clear hR8
        go_wp2_with fail
        refine (same_any HDT.out HR8.out).mono ?_
        rintro e v1 ⟨rfl, hb1⟩
        have HB1 := hid (HBT.out.trans (hb1.mono HBT.out.size))
        have HD1 := hid (HDT.out.below hb1)
        have HR1 := hid (HR8.out.below hb1)
        clear hb1 HBT HDT HR8 HRT
        go_wp2_with fail
        refine (crash_any HD1.out a2 c n2 cap2 (HR2.out.below HB1.out) HN2.out (by omega)).mono ?_
        rintro e v2 ⟨x, rfl, xp, hx, hb2, -, -⟩
        have HB2 := hid (HB1.out.trans (hb2.mono HB1.out.size))
        have HD2 := hid (HD1.out.below hb2)
        have HR22 := hid (HR1.out.below hb2)
        have HX2 := hid hx
        clear hb2 hx HB1 HD1 HR1
        go_wp2_with fail
        refine (rcrash_any HR22.out a2 c n2 cap2 (HR2.out.below HB2.out) HN2.out (by omega)).mono ?_
        rintro e v3 ⟨y, rfl, ⟨Ry, hy⟩, hb3⟩
        have HB3 := hid (HB2.out.trans (hb3.mono HB2.out.size))
        have HD3 := hid (HD2.out.below hb3)
        have HR3 := hid (HR22.out.below hb3)
        have HX3 := hid (HX2.out.below hb3)
        have HY3 := hid hy
        clear hb3 hy HB2 HD2 HR22 HX2
        go_wp2_with fail
        refine (same_any HX3.out HY3.out).mono ?_
        rintro e v4 ⟨rfl, hb4⟩
        have HB4 := hid (HB3.out.trans (hb4.mono HB3.out.size))
        have HD4 := hid (HD3.out.below hb4)
        have HR4 := hid (HR3.out.below hb4)
        clear hb4 HB3 HD3 HR3 HX3 HY3
        go_wp2_with fail
        go_roundg (gk - 1)
        case measure => omega
        case rel => exact ⟨i + 1, _, R8, by omega, by go_num, hops8, HD4.out, HR4.out, HB4.out⟩
      · rcases Int.lt_or_eq_of_le (show xn ≤ -1 by omega) with hlt | hlt
        · refine (fuse_any HDA.out xn HXN.out.2).mono ?_
          rintro e w5 ⟨rfl, hd5, ho5⟩
          have HB5 := hid (HBA.out.trans ((ho5.weak (o := some p)).low HQ.out HP.out HBA.out.size))
          have HD5 := hid hd5
          have hR5 := HRA.out.only HDA.out (ho5.weak (o := some p))
          have hdd5 := (ho5.block dd (Array.getElem?_eq_some_iff.1 HDD.out).1 (fun e => by
            obtain ⟨zz, h1, _⟩ := HDA.out
            have h3 := HDD.out; rw [e, h1] at h3; simp at h3) (by simp)).trans HDD.out
          have x1 : w5.cell? ⟨dd, 1, none⟩ = some (.int .i64 xn) := by rw [cell_of_row w5 dd 1 _ 33 (0, 0) hdd5]; rfl
          obtain ⟨_, _, _, f3, _, _, ff⟩ := hR5.cells
          have ff3 := ff 3
          have hon := only_setCell w5 m 3 none (.int .i64 (-1))
          have hT := hR5.turn (d' := d.fused xn) (z := (-1)) hon rfl (by rw [heap_setCell_same _ _ _ _ _ _ hR5.head]; simp [Dk.fused]) (fun e => by rfl) (fun k e => by simp [Dk.fused, hx0] at e)
          have hkh := hR5.keep_head hon
          have HBT := hid (HB5.out.trans (hkh.below HB5.out.size))
          have HDT := hid (HD5.out.rkeep hkh)
          have HRT := hid (show ∃ R', RefOk w.heap.size (w5.setCell ⟨m, 3, none⟩ (.int .i64 (-1))) m R' (d.fused xn) from ⟨_, hT⟩)
          have HOP : Hid ((d.fused xn).ops ≤ i + 1) := by show d.ops ≤ _; omega
          generalize R.z = Rz at f3
          have hmx : max xn (-1) = (-1) := by omega
          clear hd5 ho5 hdd5 hR5 ff hon hT hkh HBA HDA HRA HDD HB5 HD5
          go_wp2_with fail
          have hops8 := HOP.out
          obtain ⟨R8, hR8⟩ := HRT.out
          have HR8 := hid hR8
          clear hR8
          go_wp2_with fail
          refine (same_any HDT.out HR8.out).mono ?_
          rintro e v1 ⟨rfl, hb1⟩
          have HB1 := hid (HBT.out.trans (hb1.mono HBT.out.size))
          have HD1 := hid (HDT.out.below hb1)
          have HR1 := hid (HR8.out.below hb1)
          clear hb1 HBT HDT HR8 HRT
          go_wp2_with fail
          refine (crash_any HD1.out a2 c n2 cap2 (HR2.out.below HB1.out) HN2.out (by omega)).mono ?_
          rintro e v2 ⟨x, rfl, xp, hx, hb2, -, -⟩
          have HB2 := hid (HB1.out.trans (hb2.mono HB1.out.size))
          have HD2 := hid (HD1.out.below hb2)
          have HR22 := hid (HR1.out.below hb2)
          have HX2 := hid hx
          clear hb2 hx HB1 HD1 HR1
          go_wp2_with fail
          refine (rcrash_any HR22.out a2 c n2 cap2 (HR2.out.below HB2.out) HN2.out (by omega)).mono ?_
          rintro e v3 ⟨y, rfl, ⟨Ry, hy⟩, hb3⟩
          have HB3 := hid (HB2.out.trans (hb3.mono HB2.out.size))
          have HD3 := hid (HD2.out.below hb3)
          have HR3 := hid (HR22.out.below hb3)
          have HX3 := hid (HX2.out.below hb3)
          have HY3 := hid hy
          clear hb3 hy HB2 HD2 HR22 HX2
          go_wp2_with fail
          refine (same_any HX3.out HY3.out).mono ?_
          rintro e v4 ⟨rfl, hb4⟩
          have HB4 := hid (HB3.out.trans (hb4.mono HB3.out.size))
          have HD4 := hid (HD3.out.below hb4)
          have HR4 := hid (HR3.out.below hb4)
          clear hb4 HB3 HD3 HR3 HX3 HY3
          go_wp2_with fail
          go_roundg (gk - 1)
          case measure => omega
          case rel => exact ⟨i + 1, _, R8, by omega, by go_num, hops8, HD4.out, HR4.out, HB4.out⟩
        · subst hlt
          refine (fuse_any HDA.out (-1 : Int) HXN.out.2).mono ?_
          rintro e w5 ⟨rfl, hd5, ho5⟩
          have HB5 := hid (HBA.out.trans ((ho5.weak (o := some p)).low HQ.out HP.out HBA.out.size))
          have HD5 := hid hd5
          have hR5 := HRA.out.only HDA.out (ho5.weak (o := some p))
          have hdd5 := (ho5.block dd (Array.getElem?_eq_some_iff.1 HDD.out).1 (fun e => by
            obtain ⟨zz, h1, _⟩ := HDA.out
            have h3 := HDD.out; rw [e, h1] at h3; simp at h3) (by simp)).trans HDD.out
          have x1 : w5.cell? ⟨dd, 1, none⟩ = some (.int .i64 (-1 : Int)) := by rw [cell_of_row w5 dd 1 _ 33 (0, 0) hdd5]; rfl
          obtain ⟨_, _, _, f3, _, _, ff⟩ := hR5.cells
          have ff3 := ff 3
          have hon := only_setCell w5 m 3 none (.int .i64 (-1))
          have hT := hR5.turn (d' := d.fused (-1 : Int)) (z := (-1)) hon rfl (by rw [heap_setCell_same _ _ _ _ _ _ hR5.head]; simp [Dk.fused]) (fun e => by rfl) (fun k e => by simp [Dk.fused] at e)
          have hkh := hR5.keep_head hon
          have HBT := hid (HB5.out.trans (hkh.below HB5.out.size))
          have HDT := hid (HD5.out.rkeep hkh)
          have HRT := hid (show ∃ R', RefOk w.heap.size (w5.setCell ⟨m, 3, none⟩ (.int .i64 (-1))) m R' (d.fused (-1 : Int)) from ⟨_, hT⟩)
          have HOP : Hid ((d.fused (-1 : Int)).ops ≤ i + 1) := by show d.ops ≤ _; omega
          generalize R.z = Rz at f3
          have hmx : max (-1 : Int) (-1) = (-1) := by omega
          clear hd5 ho5 hdd5 hR5 ff hon hT hkh HBA HDA HRA HDD HB5 HD5
          go_wp2_with fail
          have hops8 := HOP.out
          obtain ⟨R8, hR8⟩ := HRT.out
          have HR8 := hid hR8
          clear hR8
          go_wp2_with fail
          refine (same_any HDT.out HR8.out).mono ?_
          rintro e v1 ⟨rfl, hb1⟩
          have HB1 := hid (HBT.out.trans (hb1.mono HBT.out.size))
          have HD1 := hid (HDT.out.below hb1)
          have HR1 := hid (HR8.out.below hb1)
          clear hb1 HBT HDT HR8 HRT
          go_wp2_with fail
          refine (crash_any HD1.out a2 c n2 cap2 (HR2.out.below HB1.out) HN2.out (by omega)).mono ?_
          rintro e v2 ⟨x, rfl, xp, hx, hb2, -, -⟩
          have HB2 := hid (HB1.out.trans (hb2.mono HB1.out.size))
          have HD2 := hid (HD1.out.below hb2)
          have HR22 := hid (HR1.out.below hb2)
          have HX2 := hid hx
          clear hb2 hx HB1 HD1 HR1
          go_wp2_with fail
          refine (rcrash_any HR22.out a2 c n2 cap2 (HR2.out.below HB2.out) HN2.out (by omega)).mono ?_
          rintro e v3 ⟨y, rfl, ⟨Ry, hy⟩, hb3⟩
          have HB3 := hid (HB2.out.trans (hb3.mono HB2.out.size))
          have HD3 := hid (HD2.out.below hb3)
          have HR3 := hid (HR22.out.below hb3)
          have HX3 := hid (HX2.out.below hb3)
          have HY3 := hid hy
          clear hb3 hy HB2 HD2 HR22 HX2
          go_wp2_with fail
          refine (same_any HX3.out HY3.out).mono ?_
          rintro e v4 ⟨rfl, hb4⟩
          have HB4 := hid (HB3.out.trans (hb4.mono HB3.out.size))
          have HD4 := hid (HD3.out.below hb4)
          have HR4 := hid (HR3.out.below hb4)
          clear hb4 HB3 HD3 HR3 HX3 HY3
          go_wp2_with fail
          go_roundg (gk - 1)
          case measure => omega
          case rel => exact ⟨i + 1, _, R8, by omega, by go_num, hops8, HD4.out, HR4.out, HB4.out⟩
    · have hii : ¬ (i : Int) < (M : Int) := by omega
      clear hd hR hb
      go_wp2_with fail
      go_ret
      exact ⟨rfl, HBi.out⟩
set_option linter.unusedVariables false
set_option maxRecDepth 100000 in
theorem diskPlays_lifted (os : Os) (started : os.Started) (H : Type) (enc : TypeId × Value → H) :
    ReturnsInHanded {} Try.checked os 3 .any (Rows.diskPlaysSpec.pre6 enc Try.prog Try.f3 Rows.diskPlaysRow.domain false) (Rows.diskPlaysSpec.post enc Try.prog Try.f3 false true false false) := by
  refine returnsInHanded_of_change (C := Try.checked) own started (by kernel_rfl) Try.func3
    (ChangeSpec.witness6 (enc := enc) (C := Try.checked) false ⟨#[], #[.int .i64 0, .slice none 0 0, .slice none 0 0], []⟩ 8 (by kernel_rfl) (by kernel_rfl) (by kernel_rfl) (by kernel_rfl)) ?_
  intro W base args ds gs before hval0 hW hcnd _
  have hval : ∀ (j : Nat) t v, Try.f3.params[j]? = some t → args[j]? = some v → Value.okWide Try.prog W .any base t v := hval0
  have hW' := hW
  obtain ⟨p, q, hA0, hV, rfl, hfz, hnd⟩ := hW
  have hA : DataW.TrodAll enc Try.prog W 0 (fun _ => true) true Try.f3.params.toList args.toList ds p := hA0
  rw [Try.params3] at hA hval
  obtain ⟨v0, vs0, d0, ds0, p0, q0, hargs, rfl, rfl, h0, r0⟩ := trodAll_cons hA
  obtain ⟨v1, vs1, d1, ds1, p1, q1, rfl, rfl, rfl, h1, r1⟩ := trodAll_cons r0
  obtain ⟨v2, vs2, d2, ds2, p2, q2, rfl, rfl, rfl, h2, r2⟩ := trodAll_cons r1
  obtain ⟨rfl, rfl, rfl⟩ := trodAll_nil r2
  obtain rfl : args = #[v0, v1, v2] := by cases args; simp_all
  obtain ⟨rfl, rfl⟩ := trodVars_none hV
  obtain ⟨a0, rfl, rfl, rfl, w0⟩ := open_int Try.underlying3 (hval 0 3 v0 rfl rfl) h0
  obtain ⟨a1, len1, cap1, rfl⟩ := okWide_slice Try.underlying22 (hval 1 22 v1 rfl rfl)
  have k1 := h1
  have lt1 : ∀ x ∈ p1, x.block < W.heap.size := by obtain ⟨m, hm⟩ := k1; exact DataW.trod_lt m _ _ _ hm
  obtain ⟨ls1, hls1, hds1⟩ : ∃ ls : List Dd, ls.length = len1 ∧ Deeds W a1 ls := by
    obtain ⟨fuel, hf⟩ := h1
    exact deeds_of hf
  obtain ⟨a2, len2, cap2, rfl⟩ := okWide_slice Try.underlying23 (hval 2 23 v2 rfl rfl)
  have k2 := h2
  have lt2 : ∀ x ∈ p2, x.block < W.heap.size := by obtain ⟨m, hm⟩ := k2; exact DataW.trod_lt m _ _ _ hm
  obtain ⟨z2, w2⟩ : ∃ zs, IsRow .u8 W a2 len2 cap2 zs := by
    obtain ⟨fuel, hf⟩ := h2
    rcases open_ints Try.underlying23 Try.underlying5 (by kernel_rfl) hf with ⟨hcs, _⟩ | ⟨x, l, c, zs, hcs, _, hl, hm, hz, _, hcell, hwz⟩
    · simp [Value.cells] at hcs
      obtain ⟨rfl, rfl, rfl⟩ := hcs
      exact ⟨[], .inl ⟨rfl, rfl, rfl, rfl⟩⟩
    · simp [Value.cells] at hcs
      obtain ⟨rfl, rfl, rfl⟩ := hcs
      exact ⟨zs, .inr ⟨_, rfl, hl, hm, by simpa using hz, hcell, hwz⟩⟩
  obtain ⟨l2, hl2, hr2, _, _⟩ := bytes_of w2
  clear hA0 hval0
  refine (diskPlays_walk W a0 a1 len1 cap1 ls1 hds1 hls1 a2 len2 cap2 l2 hr2 hl2).mono fun e W' ⟨he, bel⟩ => ?_
  subst he
  exact ⟨_, rfl, _, _, _, [], _, [], hW', trodAll_mk1 (shut_bool Try.underlying4 _), (trodAll_cons_mk (shut_int Try.underlying3 w0) (trodAll_cons_mk (Below.trod laidOut (by kernel_rfl) (of_decide_eq_true (by kernel_rfl)) k1 bel lt1) (trodAll_cons_mk (Below.trod laidOut (by kernel_rfl) (of_decide_eq_true (by kernel_rfl)) k2 bel lt2) trodAll_mk0))), rfl, bel.frame _, fun h => by cases h⟩

theorem diskPlays_over : Rows.diskPlaysRow.holds Try.pinned (OpenSpec.ofChange Rows.diskPlaysSpec) :=
  OpenClaim.holds_of_wide 3 Try.f3 rfl rfl rfl rfl rfl rfl rfl ⟨rfl, rfl, rfl, rfl, rfl⟩ rfl rfl rfl rfl rfl (by kernel_rfl) Try.func3 (by kernel_rfl)
    (of_decide_eq_true (by kernel_rfl)) (by unfold Func.isWrapper; first | (rw [if_pos (by decide +kernel)]; kernel_rfl) | (rw [if_neg (by decide +kernel)]; exact ⟨rfl, rfl⟩))
    (fun os started H enc _ => diskPlays_lifted os started H enc)
theorem diskPlays_holds : Rows.DiskPlaysSaid := diskPlays_over
#print axioms diskPlays_holds
end Go.Proofs.Ytoniolndoidkcaa
