/- DiskFlushed: what was flushed is there behind every crash, and a crash changes nothing of the disk itself; for every input. -/
import Derived.Test.YtoniolndoidkcaaGrid
namespace Go.Proofs.Ytoniolndoidkcaa
open Go.ChangeShapes Go.WideShapes Go.ChangeAt Go.RowKit
/-- A disk of twenty sectors without a fuse, alive. -/
def Free (d : Dk) (m : Nat) : Prop := d.secs.length = 20 ∧ d.dead = false ∧ d.fuse = none ∧ d.ops ≤ m
/-- From the end on, the first i sectors may wait, no other. -/
def Calm (d : Dk) (i : Nat) : Prop := ∀ j, j < 20 → i + j ≤ 19 → (d.secs.getD j blank).waits = false
theorem free_write {d : Dk} {m : Nat} (h : Free d m) (i : Nat) (hi : i < 20) (b : List Nat) (hb : b.length = 64) : (d.write (i : Int) b).2 = 0 ∧ Free (d.write (i : Int) b).1 (m + 1) := by
  obtain ⟨h1, h2, h3, h4⟩ := h
  rw [write_free h2 h3 i (by omega) b hb]
  exact ⟨rfl, by simpa using h1, h2, h3, by simpa using h4⟩
theorem calm_write {d : Dk} {m i : Nat} (h : Free d m) (hc : Calm d i) (hi : i < 20) (b : List Nat) (hb : b.length = 64) : Calm (d.write ((19 - i : Nat) : Int) b).1 (i + 1) := by
  obtain ⟨h1, h2, h3, h4⟩ := h
  rw [write_free h2 h3 (19 - i) (by omega) b hb]
  intro j hj hij
  have e : ¬ (19 - i = j) := by omega
  have := hc j hj (by omega)
  simp only [List.getD_eq_getElem?_getD, List.getElem?_set, if_neg e] at this ⊢
  exact this
theorem free_flush {d : Dk} {m : Nat} (h : Free d m) : d.flush.2 = 0 ∧ Free d.flush.1 (m + 1) ∧ Calm d.flush.1 0 := by
  obtain ⟨h1, h2, h3, h4⟩ := h
  rw [flush_free h2 h3]
  refine ⟨rfl, ⟨by simpa using h1, h2, h3, by simpa using h4⟩, fun j hj _ => ?_⟩
  have hj' : j < d.secs.length := by omega
  simp [clean, hj']
theorem calm_crash {d : Dk} {m i : Nat} (h : Free d m) (hc : Calm d i) (c : List Nat) (j : Nat) (hj : j < 20) (hij : i + j ≤ 19) : (d.crash c).read j = d.read j := by
  have hw := hc j hj hij
  have hj' : j < d.secs.length := by rw [h.1]; exact hj
  have e : (d.crash c).secs.getD j blank = crashAt c d.secs j := by
    simp only [Dk.crash, crashL, List.getD_eq_getElem?_getD, List.getElem?_map, List.getElem?_range hj', Option.map_some, Option.getD_some]
  rw [Dk.read, Dk.read, e, crashAt, crashed, if_neg (by rw [hw]; simp)]
  simp only [Sec.last, hw]
  rfl
theorem crash_len (d : Dk) (c : List Nat) : (d.crash c).secs.length = d.secs.length := by simp [Dk.crash, crashL]
theorem new20 (w : World) : Calls Try.prog 10 #[.int .i64 20] w fun e w' => ∃ q, e = .returned (.tuple #[.pointer (some ⟨q, 0, none⟩), .int .i64 0]) ∧ ∃ p, DiskAt w' q p (fresh 20) ∧ Below w.heap.size w w' ∧ w.heap.size ≤ q ∧ w.heap.size ≤ p := new_any w 20 (by decide)
set_option maxRecDepth 20000 in
set_option maxHeartbeats 4000000 in
theorem diskFlushed_walk (w : World) (a : Option Addr) (N cap : Nat) (ls : List (List Nat)) (hg : Grid w a ls) (hN : ls.length = N) (a1 : Option Addr) (M cap1 : Nat) (ms : List (List Nat)) (hg1 : Grid w a1 ms) (hM : ms.length = M) (a2 : Option Addr) (n2 cap2 : Nat) (c : List Nat) (hr2 : Row w a2 c) (hn2 : c.length = n2) :
    Calls Try.prog 4 #[.slice a N cap, .slice a1 M cap1, .slice a2 n2 cap2] w fun e w' => e = .returned (.bool true) ∧ Below w.heap.size w w' := by
  have HG := hid hg
  have HN := hid hN
  have HG1 := hid hg1
  have HM := hid hM
  have HR2 := hid hr2
  have HN2 := hid hn2
  clear hg hN hg1 hM hr2 hn2
  go_enter Try.func4, Try.ntmps4
  go_wp2_with fail
  refine (awake_any w).mono ?_
  rintro e w2 ⟨rfl, hb2⟩
  have HBw2 := hid hb2
  clear hb2
  by_cases h20 : 20 < N
  · have t0 : (20 : Int) < (N : Int) := by omega
    clear h20
    go_wp2_with fail
    go_ret
    exact ⟨rfl, HBw2.out⟩
  have t0 : ¬ (20 : Int) < (N : Int) := by omega
  by_cases h21 : 20 < M
  · have t1 : (20 : Int) < (M : Int) := by omega
    clear h21
    go_wp2_with fail
    go_ret
    exact ⟨rfl, HBw2.out⟩
  have t1 : ¬ (20 : Int) < (M : Int) := by omega
  by_cases h22 : 100 < n2
  · have t2 : (100 : Int) < (n2 : Int) := by omega
    clear h22
    go_wp2_with fail
    go_ret
    exact ⟨rfl, HBw2.out⟩
  have t2 : ¬ (100 : Int) < (n2 : Int) := by omega
  go_wp2_with fail
  refine (new20 w2).mono ?_
  rintro e w3 ⟨q, rfl, p, hd, hb, hq, hp⟩
  have HBw3 := hid (HBw2.out.trans (hb.mono HBw2.out.size))
  have HDw3 := hid hd
  have HQ := hid (Nat.le_trans HBw2.out.size hq)
  have HP := hid (Nat.le_trans HBw2.out.size hp)
  clear hd hb hq hp HBw2
  go_wp2_with fail
  go_loopg [9] N (fun t v9 wr => ∃ (i : Nat) (d : Dk), i + t = N ∧ v9 = .int .i64 (i : Int) ∧ Free d i ∧ DiskAt wr q p d ∧ Below w.heap.size w wr)
  case atStart => exact ⟨0, fresh 20, by omega, rfl, ⟨by simp [fresh], rfl, rfl, by simp [fresh]⟩, HDw3.out, HBw3.out⟩
  case round =>
    obtain ⟨i, d, hk, rfl, hf, hd, hb⟩ := hrel
    have HBi := hid hb
    have HDi := hid hd
    have HFi := hid hf
    by_cases h1 : i < N
    · have hi : (i : Int) < (N : Int) := by omega
      obtain ⟨b0, o0, rfl, hc⟩ := (HG.out.below hb).at_ (by intro e; rw [← HN.out, e] at h1; simp at h1)
      obtain ⟨ai, ci, hci, hri⟩ := hc i (by rw [HN.out]; exact h1)
      have HRi := hid hri
      have HLi := hid (bytes_full hri.1)
      generalize hni : (ls.getD i []).length = ni at *
      clear hd hb hf hc hri
      by_cases h100 : 100 < ni
      · have u1 : (100 : Int) < (ni : Int) := by omega
        clear h100
        go_wp2_with fail
        go_ret
        exact ⟨rfl, HBi.out⟩
      have u1 : ¬ (100 : Int) < (ni : Int) := by omega
      go_wp2_with fail
      refine (full_any wr ai (ls.getD i []) ni ci HRi.out hni (by omega)).mono ?_
      rintro e w5 ⟨g, rfl, hg, hb, -⟩
      have HBw5 := hid (HBi.out.trans (hb.mono HBi.out.size))
      have HDw5 := hid (HDi.out.below hb)
      have HG5 := hid hg
      clear hg hb hci
      go_wp2_with fail
      refine (write_any HDw5.out (by have := HFi.out.2.2.2; omega) (i : Int) _ (full (ls.getD i [])) 64 64 HG5.out.row HLi.out.1).mono ?_
      rintro e w6 ⟨rfl, hd, ho⟩
      obtain ⟨h2, h3⟩ := free_write HFi.out i (by omega) (full (ls.getD i [])) HLi.out.1
      rw [h2]
      have HBw6 := hid (HBw5.out.trans (ho.low HQ.out HP.out HBw5.out.size))
      have HDw6 := hid hd
      have HF6 := hid h3
      clear hd ho h2 h3 HBw5 HDw5 HG5
      go_wp2_with fail
      go_roundg (gk - 1)
      case measure => omega
      case rel => exact ⟨i + 1, _, by omega, by go_num, HF6.out, HDw6.out, HBw6.out⟩
    · obtain rfl : i = N := by omega
      clear hd hb hf h1
      go_wp2_with fail
      refine (flush_any HDi.out (by have := HFi.out.2.2.2; omega)).mono ?_
      rintro e w5 ⟨rfl, hd, ho⟩
      obtain ⟨h2, h3, h4⟩ := free_flush HFi.out
      rw [h2]
      have HBw5 := hid (HBi.out.trans (ho.low HQ.out HP.out HBi.out.size))
      have HDw5 := hid hd
      have HF5 := hid h3
      have HC5 := hid h4
      clear hd ho h2 h3 h4 HBi HDi
      generalize d.flush.1 = d5 at *
      go_wp2_with fail
      go_loopg [10] M (fun t v10 wr => ∃ (j : Nat) (d : Dk), j + t = M ∧ v10 = .int .i64 (j : Int) ∧ Free d (21 + j) ∧ Calm d j ∧ DiskAt wr q p d ∧ Below w.heap.size w wr)
      case atStart => exact ⟨0, d5, by omega, rfl, ⟨HF5.out.1, HF5.out.2.1, HF5.out.2.2.1, by have := HF5.out.2.2.2; omega⟩, HC5.out, HDw5.out, HBw5.out⟩
      case round =>
        obtain ⟨j, d2, hk2, rfl, hf, hcm, hd, hb⟩ := hrel
        have HBj := hid hb
        have HDj := hid hd
        have HFj := hid hf
        have HCj := hid hcm
        by_cases h1 : j < M
        · have hi : (j : Int) < (M : Int) := by omega
          obtain ⟨b0, o0, rfl, hc⟩ := (HG1.out.below hb).at_ (by intro e; rw [← HM.out, e] at h1; simp at h1)
          obtain ⟨ai, ci, hci, hri⟩ := hc j (by rw [HM.out]; exact h1)
          have HRi := hid hri
          have HLi := hid (bytes_full hri.1)
          generalize hni : (ms.getD j []).length = ni at *
          clear hd hb hf hcm hc hri
          by_cases h100 : 100 < ni
          · have u1 : (100 : Int) < (ni : Int) := by omega
            clear h100
            go_wp2_with fail
            go_ret
            exact ⟨rfl, HBj.out⟩
          have u1 : ¬ (100 : Int) < (ni : Int) := by omega
          have e19 : (19 : Int) - (j : Int) = ((19 - j : Nat) : Int) := by omega
          go_wp2_with fail
          refine (full_any wr ai (ms.getD j []) ni ci HRi.out hni (by omega)).mono ?_
          rintro e w6 ⟨g, rfl, hg, hb, -⟩
          have HBw6 := hid (HBj.out.trans (hb.mono HBj.out.size))
          have HDw6 := hid (HDj.out.below hb)
          have HG6 := hid hg
          clear hg hb hci
          go_wp2_with fail
          refine (write_any HDw6.out (by have := HFj.out.2.2.2; omega) ((19 - j : Nat) : Int) _ (full (ms.getD j [])) 64 64 HG6.out.row HLi.out.1).mono ?_
          rintro e w7 ⟨rfl, hd, ho⟩
          obtain ⟨h2, h3⟩ := free_write HFj.out (19 - j) (by omega) (full (ms.getD j [])) HLi.out.1
          have h4 := calm_write HFj.out HCj.out (by omega) (full (ms.getD j [])) HLi.out.1
          rw [h2]
          have HBw7 := hid (HBw6.out.trans (ho.low HQ.out HP.out HBw6.out.size))
          have HDw7 := hid hd
          have HF7 := hid h3
          have HC7 := hid h4
          clear hd ho h2 h3 h4 HBw6 HDw6 HG6
          generalize (d2.write ((19 - j : Nat) : Int) (full (ms.getD j []))).1 = d7 at HF7 HC7 HDw7
          clear e19
          go_wp2_with fail
          go_roundg (gk - 1)
          case measure => omega
          case rel => exact ⟨j + 1, d7, by omega, by go_num, HF7.out, HC7.out, HDw7.out, HBw7.out⟩
        · obtain rfl : j = M := by omega
          clear hd hb hf hcm h1
          go_wp2_with fail
          refine (crash_any HDj.out a2 c n2 cap2 (HR2.out.below HBj.out) HN2.out (by omega)).mono ?_
          rintro e w6 ⟨x, rfl, xp, hx, hb, hxq, hxp⟩
          have HBw6 := hid (HBj.out.trans (hb.mono HBj.out.size))
          have HXw6 := hid hx
          have HDw6 := hid (HDj.out.below hb)
          have HXQ := hid (Nat.le_trans HBj.out.size hxq)
          have HXP := hid (Nat.le_trans HBj.out.size hxp)
          clear hx hb hxq hxp
          go_wp2_with fail
          go_loopg [12, 13, 14, 15, 16] 20 (fun t v12 v13 v14 v15 v16 wq => ∃ k : Nat, k + t = 20 ∧ v12 = .int .i64 (k : Int) ∧ DiskAt wq x xp (d2.crash c) ∧ DiskAt wq q p d2 ∧ Below w.heap.size w wq)
          case atStart => exact ⟨0, by omega, rfl, HXw6.out, HDw6.out, HBw6.out⟩
          case round =>
            obtain ⟨k, hk3, rfl, hx, hd, hb⟩ := hrel
            have HBk := hid hb
            have HXk := hid hx
            have HDk := hid hd
            by_cases h1 : k < 20
            · have hi : (k : Int) < 20 := by omega
              clear hx hd hb
              go_wp2_with fail
              refine (read_ok (i := k) HXk.out rfl (by rw [crash_len, HFj.out.1]; exact h1)).mono ?_
              rintro e w7 ⟨g7, rfl, hg, hb, -⟩
              have HBw7 := hid (HBk.out.trans (hb.mono HBk.out.size))
              have HXw7 := hid (HXk.out.below hb)
              have HDw7 := hid (HDk.out.below hb)
              have HG7 := hid hg
              have HL7 := hid (read_len (i := k) HXk.out (by rw [crash_len, HFj.out.1]; exact h1))
              clear hg hb
              go_wp2_with fail
              refine (read_ok (i := k) HDw7.out HFj.out.2.1 (by rw [HFj.out.1]; exact h1)).mono ?_
              rintro e w8 ⟨g8, rfl, hg, hb, -⟩
              have HBw8 := hid (HBw7.out.trans (hb.mono HBw7.out.size))
              have HXw8 := hid (HXw7.out.below hb)
              have HDw8 := hid (HDw7.out.below hb)
              have hs1 := str_all (HG7.out.below hb) 64 64 HL7.out w8 (Below.refl _ _)
              have hs2 := str_all hg 64 64 (read_len (i := k) HDw7.out (by rw [HFj.out.1]; exact h1)) w8 (Below.refl _ _)
              clear hg hb
              by_cases h2 : j + k ≤ 19
              · have u1 : (j : Int) ≤ 19 - (k : Int) := by omega
                rw [calm_crash HFj.out HCj.out c k h1 h2] at hs1
                generalize strOf (d2.read k) = SS at hs1 hs2
                clear h2
                go_wp2_with fail
                go_roundg (gk - 1)
                case measure => omega
                case rel => exact ⟨k + 1, by omega, by go_num, HXw8.out, HDw8.out, HBw8.out⟩
              · have u1 : ¬ (j : Int) ≤ 19 - (k : Int) := by omega
                clear h2
                go_wp2_with fail
                go_roundg (gk - 1)
                case measure => omega
                case rel => exact ⟨k + 1, by omega, by go_num, HXw8.out, HDw8.out, HBw8.out⟩
            · obtain rfl : k = 20 := by omega
              clear hx hd hb h1
              go_wp2_with fail
              refine (flush_any HXk.out (by simp [Dk.crash])).mono ?_
              rintro e w7 ⟨rfl, hd, ho⟩
              have HBw7 := hid (HBk.out.trans (ho.low HXQ.out HXP.out HBk.out.size))
              rw [flush_free rfl rfl] at hd ⊢
              have HDw7 := hid hd
              clear hd ho
              go_wp2_with fail
              refine (ops_any HDw7.out).mono ?_
              rintro e w8 ⟨rfl, rfl⟩
              have hdd : (((d2.crash c).ops + 1 : Nat) : Int) = 1 := rfl
              simp only [hdd]
              go_wp2_with fail
              go_ret
              exact ⟨rfl, HBw7.out⟩
set_option linter.unusedVariables false
set_option maxRecDepth 100000 in
theorem diskFlushed_lifted (os : Os) (started : os.Started) (H : Type) (enc : TypeId × Value → H) :
    ReturnsInHanded {} Try.checked os 4 .any (Rows.diskFlushedSpec.pre6 enc Try.prog Try.f4 Rows.diskFlushedRow.domain false) (Rows.diskFlushedSpec.post enc Try.prog Try.f4 false true false false) := by
  refine returnsInHanded_of_change (C := Try.checked) own started (by kernel_rfl) Try.func4
    (ChangeSpec.witness6 (enc := enc) (C := Try.checked) false ⟨#[], #[.slice none 0 0, .slice none 0 0, .slice none 0 0], []⟩ 8 (by kernel_rfl) (by kernel_rfl) (by kernel_rfl) (by kernel_rfl)) ?_
  intro W base args ds gs before hval0 hW hcnd _
  have hval : ∀ (j : Nat) t v, Try.f4.params[j]? = some t → args[j]? = some v → Value.okWide Try.prog W .any base t v := hval0
  have hW' := hW
  obtain ⟨p, q, hA0, hV, rfl, hfz, hnd⟩ := hW
  have hA : DataW.TrodAll enc Try.prog W 0 (fun _ => true) true Try.f4.params.toList args.toList ds p := hA0
  rw [Try.params4] at hA hval
  obtain ⟨v0, vs0, d0, ds0, p0, q0, hargs, rfl, rfl, h0, r0⟩ := trodAll_cons hA
  obtain ⟨v1, vs1, d1, ds1, p1, q1, rfl, rfl, rfl, h1, r1⟩ := trodAll_cons r0
  obtain ⟨v2, vs2, d2, ds2, p2, q2, rfl, rfl, rfl, h2, r2⟩ := trodAll_cons r1
  obtain ⟨rfl, rfl, rfl⟩ := trodAll_nil r2
  obtain rfl : args = #[v0, v1, v2] := by cases args; simp_all
  obtain ⟨rfl, rfl⟩ := trodVars_none hV
  obtain ⟨a0, len0, cap0, rfl⟩ := okWide_slice Try.underlying44 (hval 0 44 v0 rfl rfl)
  have k0 := h0
  have lt0 : ∀ x ∈ p0, x.block < W.heap.size := by obtain ⟨m, hm⟩ := k0; exact DataW.trod_lt m _ _ _ hm
  obtain ⟨ls0, hls0, hgrid0⟩ : ∃ ls : List (List Nat), ls.length = len0 ∧ Grid W a0 ls := by
    obtain ⟨fuel, hf⟩ := h0
    exact grid_of hf
  obtain ⟨a1, len1, cap1, rfl⟩ := okWide_slice Try.underlying44 (hval 1 44 v1 rfl rfl)
  have k1 := h1
  have lt1 : ∀ x ∈ p1, x.block < W.heap.size := by obtain ⟨m, hm⟩ := k1; exact DataW.trod_lt m _ _ _ hm
  obtain ⟨ls1, hls1, hgrid1⟩ : ∃ ls : List (List Nat), ls.length = len1 ∧ Grid W a1 ls := by
    obtain ⟨fuel, hf⟩ := h1
    exact grid_of hf
  obtain ⟨a2, len2, cap2, rfl⟩ := okWide_slice Try.underlying23 (hval 2 23 v2 rfl rfl)
  have k2 := h2
  have lt2 : ∀ x ∈ p2, x.block < W.heap.size := by obtain ⟨m, hm⟩ := k2; exact DataW.trod_lt m _ _ _ hm
  obtain ⟨z2, w2⟩ : ∃ zs, IsRow .u8 W a2 len2 cap2 zs := by
    obtain ⟨fuel, hf⟩ := h2
    rcases open_ints Try.underlying23 Try.underlying5 (by kernel_rfl) hf with ⟨hcs, _⟩ | ⟨x, l, c, zs, hcs, _, hl, hm, hz, _, hcell, hwz⟩
    · simp [Value.cells] at hcs
      obtain ⟨rfl, rfl, rfl⟩ := hcs
      exact ⟨[], .inl ⟨rfl, rfl, rfl, rfl⟩⟩
    · simp [Value.cells] at hcs
      obtain ⟨rfl, rfl, rfl⟩ := hcs
      exact ⟨zs, .inr ⟨_, rfl, hl, hm, by simpa using hz, hcell, hwz⟩⟩
  obtain ⟨l2, hl2, hr2, _, _⟩ := bytes_of w2
  clear hA0 hval0
  refine (diskFlushed_walk W a0 len0 cap0 ls0 hgrid0 hls0 a1 len1 cap1 ls1 hgrid1 hls1 a2 len2 cap2 l2 hr2 hl2).mono fun e W' ⟨he, bel⟩ => ?_
  subst he
  exact ⟨_, rfl, _, _, _, [], _, [], hW', trodAll_mk1 (shut_bool Try.underlying4 _), (trodAll_cons_mk (Below.trod laidOut (by kernel_rfl) (of_decide_eq_true (by kernel_rfl)) k0 bel lt0) (trodAll_cons_mk (Below.trod laidOut (by kernel_rfl) (of_decide_eq_true (by kernel_rfl)) k1 bel lt1) (trodAll_cons_mk (Below.trod laidOut (by kernel_rfl) (of_decide_eq_true (by kernel_rfl)) k2 bel lt2) trodAll_mk0))), rfl, bel.frame _, fun h => by cases h⟩

theorem diskFlushed_over : Rows.diskFlushedRow.holds Try.pinned (OpenSpec.ofChange Rows.diskFlushedSpec) :=
  OpenClaim.holds_of_wide 4 Try.f4 rfl rfl rfl rfl rfl rfl rfl ⟨rfl, rfl, rfl, rfl, rfl⟩ rfl rfl rfl rfl rfl (by kernel_rfl) Try.func4 (by kernel_rfl)
    (of_decide_eq_true (by kernel_rfl)) (by unfold Func.isWrapper; first | (rw [if_pos (by decide +kernel)]; kernel_rfl) | (rw [if_neg (by decide +kernel)]; exact ⟨rfl, rfl⟩))
    (fun os started H enc _ => diskFlushed_lifted os started H enc)
theorem diskFlushed_holds : Rows.DiskFlushedSaid := diskFlushed_over
#print axioms diskFlushed_holds
end Go.Proofs.Ytoniolndoidkcaa
