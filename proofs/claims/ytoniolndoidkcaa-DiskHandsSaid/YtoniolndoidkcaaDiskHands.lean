/- DiskHands: bytes that are handed in and out may be changed: the disk hears nothing of it, nor does a crash of it; for every input. -/
import Derived.Test.YtoniolndoidkcaaMore
import Derived.Deep.RegionHeld
namespace Go.Proofs.Ytoniolndoidkcaa
open Go.ChangeShapes Go.WideShapes Go.ChangeAt Go.RowKit
theorem hand1 (a : List Nat) (ha : a.length = 64) : (fresh 2).write 0 a = (⟨[⟨zeros, a, true⟩, blank], 1, none, false⟩, 0) := by
  have := write_free (d := fresh 2) rfl rfl 0 (by simp [fresh]) a ha
  simpa [fresh, blank] using this
theorem hand2 (a : List Nat) : (Dk.mk [⟨zeros, a, true⟩, blank] 1 none false).read 0 = a := by simp [Dk.read, Sec.last]
theorem hand3 (a : List Nat) : (Dk.mk [⟨zeros, a, true⟩, blank] 1 none false).crash [1] = ⟨[⟨mix zeros a 64, zeros, false⟩, blank], 0, none, false⟩ := by
  simp [Dk.crash, crashL, crashAt, crashed, count, blank, stay, rep, List.range_succ]
theorem hand4 (a b : List Nat) (hb : b.length = 64) : (Dk.mk [⟨a, zeros, false⟩, blank] 0 none false).write 0 b = (⟨[⟨a, b, true⟩, blank], 1, none, false⟩, 0) := by
  have := write_free (d := ⟨[⟨a, zeros, false⟩, blank], 0, none, false⟩) rfl rfl 0 (by simp) b hb
  simpa using this
theorem hand5 (a b : List Nat) : (Dk.mk [⟨a, b, true⟩, blank] 1 none false).flush = (⟨[⟨b, zeros, false⟩, blank], 2, none, false⟩, 0) := by
  rw [flush_free rfl rfl]
  simp [clean, Sec.last, blank]
theorem hand6 (b : List Nat) : (Dk.mk [⟨b, zeros, false⟩, blank] 2 none false).read 0 = b := by simp [Dk.read, Sec.last]
theorem DiskAt.set {w : World} {q p g i : Nat} {d : Dk} (h : DiskAt w q p d) (h1 : g ≠ q) (h2 : g ≠ p) (v : Value) : DiskAt (w.setCell ⟨g, i, none⟩ v) q p d :=
  h.kept (Below.heap_setCell w ⟨g, i, none⟩ v q (Ne.symm h1)) (Below.heap_setCell w ⟨g, i, none⟩ v p (Ne.symm h2))
theorem crash_at {w : World} {q p m : Nat} {d : Dk} (h : DiskAt w q p d) (hm : w.heap.size = m) (b : Nat) (hb : b < 256) :
    Calls Try.prog 24 #[.pointer (some ⟨q, 0, none⟩), .slice (some ⟨m, 0, none⟩) 1 1] (w.alloc (.cells #[.int .u8 (b : Int)] 5)) fun e w' => ∃ q', e = .returned (.pointer (some ⟨q', 0, none⟩)) ∧ ∃ p', DiskAt w' q' p' (d.crash [b]) ∧ Below w.heap.size w w' ∧ w.heap.size ≤ q' ∧ w.heap.size ≤ p' := by
  subst hm
  exact crash_one h b hb
set_option maxHeartbeats 2000000 in
theorem diskHands_walk (w : World) (a0 : Option Addr) (n0 cap0 : Nat) (l0 : List Nat) (hr0 : Row w a0 l0) (hl0 : l0.length = n0) (a1 : Option Addr) (n1 cap1 : Nat) (l1 : List Nat) (hr1 : Row w a1 l1) (hl1 : l1.length = n1) :
    Calls Try.prog 8 #[.slice a0 n0 cap0, .slice a1 n1 cap1] w fun e w' => e = .returned (.bool true) ∧ Below w.heap.size w w' := by
  have HR0 := hid hr0
  have HR1 := hid hr1
  have HL0 := hid hl0
  have HL1 := hid hl1
  have HF0 := hid (bytes_full hr0.1)
  have HF1 := hid (bytes_full hr1.1)
  clear hr0 hr1 hl0 hl1
  go_enter Try.func8, Try.ntmps8
  go_wp2_with fail
  refine (awake_any w).mono ?_
  rintro e w2 ⟨rfl, hb2⟩
  have HBw2 := hid hb2
  clear hb2
  by_cases h100 : 100 < n0
  · have t0 : (100 : Int) < (n0 : Int) := by omega
    clear h100
    go_wp2_with fail
    go_ret
    exact ⟨rfl, HBw2.out⟩
  have t0 : ¬ (100 : Int) < (n0 : Int) := by omega
  by_cases h101 : 100 < n1
  · have t1 : (100 : Int) < (n1 : Int) := by omega
    clear h101
    go_wp2_with fail
    go_ret
    exact ⟨rfl, HBw2.out⟩
  have t1 : ¬ (100 : Int) < (n1 : Int) := by omega
  go_wp2_with fail
  refine (new2 w2).mono ?_
  rintro e w3 ⟨q, rfl, p, hd, hb, hq, hp⟩
  have HBw3 := hid (HBw2.out.trans (hb.mono HBw2.out.size))
  have HDw3 := hid hd
  have HQ := hid (Nat.le_trans HBw2.out.size hq)
  have HP := hid (Nat.le_trans HBw2.out.size hp)
  clear hd hb hq hp HBw2
  go_wp2_with fail
  refine (full_any w3 a0 l0 n0 _ (HR0.out.below HBw3.out) HL0.out (by omega)).mono ?_
  rintro e w4 ⟨g, rfl, hg, hb, hgn⟩
  have HBw4 := hid (HBw3.out.trans (hb.mono HBw3.out.size))
  have HDw4 := hid (HDw3.out.below hb)
  have HGN := hid (Nat.le_trans HBw3.out.size hgn)
  have HG := hid hg
  clear hg hb hgn HDw3 HBw3
  go_wp2_with fail
  refine (write0 HDw4.out (by decide) _ (full l0) HG.out.row HF0.out.1 64).mono ?_
  rintro e w5 ⟨rfl, hd, ho⟩
  have HBw5 := hid (HBw4.out.trans (ho.low HQ.out HP.out HBw4.out.size))
  have HGw5 := hid (HG.out.kept_disk HDw4.out ho)
  rw [hand1 _ HF0.out.1] at hd ⊢
  have HDw5 := hid hd
  have hcg := HGw5.out.cell 0 (by rw [HF0.out.1]; decide)
  have hfg := HGw5.out.frozen 0
  generalize (full l0).getD 0 0 = X at hcg
  have hnq := HGw5.out.no hd
  have HNQ := hid hnq
  clear hd ho HDw4 HBw4 HG HGw5 hnq
  go_wp2_with fail
  refine (read0 (HDw5.out.set HNQ.out.1 HNQ.out.2 _) rfl (by simp)).mono ?_
  rintro e w6 ⟨g6, rfl, hg, hb, hgn⟩
  have hs5 : Below w.heap.size w5 (w5.setCell ⟨g, 0, none⟩ (.int .u8 (((X : Int) + 1) % 256))) := (Below.refl _ _).setCell HGN.out _
  have HBs := hid (HBw5.out.trans hs5)
  have HBw6 := hid (HBs.out.trans (hb.mono HBs.out.size))
  have HDw6 := hid ((HDw5.out.set HNQ.out.1 HNQ.out.2 _).below hb)
  rw [hand2] at hg
  have HG6 := hid hg
  have HGN6 := hid (Nat.le_trans HBs.out.size hgn)
  have hcy := hg.cell 1 (by rw [HF0.out.1]; decide)
  have hfy := hg.frozen 1
  generalize (full l0).getD 1 0 = Y at hcy
  have HNQ6 := hid (hg.no HDw6.out)
  clear hg hb hgn hs5 HBs HDw5 HBw5 hcg hfg HNQ
  go_wp2_with fail
  refine (crash_at (m := w6.heap.size) (HDw6.out.set (i := 1) HNQ6.out.1 HNQ6.out.2 (.int .u8 (((Y : Int) + 1) % 256))) (by simp) 1 (by decide)).mono ?_
  rintro e w7 ⟨x, rfl, xp, hx, hb, hxq, hxp⟩
  have hs6 : Below w.heap.size w6 (w6.setCell ⟨g6, 1, none⟩ (.int .u8 (((Y : Int) + 1) % 256))) := (Below.refl _ _).setCell HGN6.out _
  have HBs := hid (HBw6.out.trans hs6)
  have HBw7 := hid (HBs.out.trans (hb.mono HBs.out.size))
  have HDw7 := hid ((HDw6.out.set HNQ6.out.1 HNQ6.out.2 _).below hb)
  have hlt6 := (HDw6.out.set (i := 1) HNQ6.out.1 HNQ6.out.2 (.int .u8 (((Y : Int) + 1) % 256))).lt
  have HXN := hid (show x ≠ q ∧ x ≠ p ∧ xp ≠ q ∧ xp ≠ p by omega)
  have HXQ := hid (Nat.le_trans HBs.out.size hxq)
  have HXP := hid (Nat.le_trans HBs.out.size hxp)
  rw [hand3] at hx
  have HXw7 := hid hx
  clear hx hb hxq hxp hs6 HBs HDw6 HBw6 HG6 HGN6 hcy hfy HNQ6 hlt6
  go_wp2_with fail
  refine (full_any w7 a1 l1 n1 _ (HR1.out.below HBw7.out) HL1.out (by omega)).mono ?_
  rintro e w8 ⟨g8, rfl, hg, hb, -⟩
  have HBw8 := hid (HBw7.out.trans (hb.mono HBw7.out.size))
  have HDw8 := hid (HDw7.out.below hb)
  have HXw8 := hid (HXw7.out.below hb)
  have HG8 := hid hg
  clear hg hb HBw7 HDw7 HXw7
  go_wp2_with fail
  refine (write0 HXw8.out (by simp) _ (full l1) HG8.out.row HF1.out.1 64).mono ?_
  rintro e w9 ⟨rfl, hd, ho⟩
  have HBw9 := hid (HBw8.out.trans (ho.low HXQ.out HXP.out HBw8.out.size))
  have HDw9 := hid (HDw8.out.only ho (Ne.symm HXN.out.1) (Ne.symm HXN.out.2.1) (fun e => HXN.out.2.2.1 (by simpa using e.symm)) (fun e => HXN.out.2.2.2 (by simpa using e.symm)))
  rw [hand4 _ _ HF1.out.1] at hd ⊢
  have HXw9 := hid hd
  clear hd ho HBw8 HDw8 HXw8 HG8
  go_wp2_with fail
  refine (flush_any HXw9.out (by simp)).mono ?_
  rintro e w10 ⟨rfl, hd, ho⟩
  have HBw10 := hid (HBw9.out.trans (ho.low HXQ.out HXP.out HBw9.out.size))
  have HDw10 := hid (HDw9.out.only ho (Ne.symm HXN.out.1) (Ne.symm HXN.out.2.1) (fun e => HXN.out.2.2.1 (by simpa using e.symm)) (fun e => HXN.out.2.2.2 (by simpa using e.symm)))
  rw [hand5] at hd ⊢
  have HXw10 := hid hd
  clear hd ho HBw9 HDw9 HXw9
  go_wp2_with fail
  refine (read0 HDw10.out rfl (by simp)).mono ?_
  rintro e w11 ⟨g11, rfl, hg, hb, -⟩
  have HBw11 := hid (HBw10.out.trans (hb.mono HBw10.out.size))
  have HXw11 := hid (HXw10.out.below hb)
  rw [hand2] at hg
  have HGw11 := hid hg
  clear hg hb HBw10 HDw10 HXw10
  go_wp2_with fail
  refine (read0 HXw11.out rfl (by simp)).mono ?_
  rintro e w12 ⟨g12, rfl, hg, hb, -⟩
  have HBw12 := hid (HBw11.out.trans (hb.mono HBw11.out.size))
  rw [hand6] at hg
  have hSz := str_all (HGw11.out.below hb) 64 64 HF0.out.1
  have hSu := str_all hg 64 64 HF1.out.1
  have hr0 := hid (HR0.out.below HBw12.out)
  have hr1 := hid (HR1.out.below HBw12.out)
  have hF0 := fun W hW => full_in (cap := cap0) hr0.out HL0.out (by omega) W hW
  have hF1 := fun W hW => full_in (cap := cap1) hr1.out HL1.out (by omega) W hW
  have hSA : ∀ w' g, Buf w' g (full l0) → ∀ W, Below w'.heap.size w' W → (convert 23 9 (.slice (some ⟨g, 0, none⟩) 64 64)).run Try.prog W = .ok (.string (strOf (full l0))) W := fun w' g h => str_all h 64 64 HF0.out.1
  have hSB : ∀ w' g, Buf w' g (full l1) → ∀ W, Below w'.heap.size w' W → (convert 23 9 (.slice (some ⟨g, 0, none⟩) 64 64)).run Try.prog W = .ok (.string (strOf (full l1))) W := fun w' g h => str_all h 64 64 HF1.out.1
  generalize strOf (full l0) = S0 at *
  generalize strOf (full l1) = S1 at *
  clear hg hb HBw11 HXw11 HGw11
  go_wp2_with fail
  go_region_held (fun W => Below w12.heap.size w12 W) (first | assumption | (refine Below.drew ?_; exact Below.refl _ _)) (first
    | (go_at_call_of 13 a0; refine (hF0 _ ?_).mono ?_; assumption; rintro e w13 ⟨g1, rfl, hb1, hb2, hb3, hg1⟩; replace hg1 := hSA w13 g1 hg1)
    | (go_at_call_of 13 a1; refine (hF1 _ ?_).mono ?_; assumption; rintro e w14 ⟨g2, rfl, hc1, hc2, hc3, hg2⟩; replace hg2 := hSB w14 g2 hg2))
  all_goals (
    clear hg1 hg2 hb1 hb2 hb3 hc2 hc3
    have HBZ := hid (HBw12.out.trans (hc1.mono HBw12.out.size))
    clear hc1
    go_wp2_with fail
    go_ret
    exact ⟨rfl, HBZ.out⟩)
set_option linter.unusedVariables false
theorem diskHands_all (a0 : Option Addr) (len0 cap0 : Nat) (z0 : List Int) (a1 : Option Addr) (len1 cap1 : Nat) (z1 : List Int) (w : World) (w0 : IsRow .u8 w a0 len0 cap0 z0) (w1 : IsRow .u8 w a1 len1 cap1 z1) :
    Calls Try.prog 8 #[.slice a0 len0 cap0, .slice a1 len1 cap1] w fun e w' => e = .returned (.bool true) ∧ Below w.heap.size w w' := by
  obtain ⟨l0, hl0, hr0, _, _⟩ := bytes_of w0
  obtain ⟨l1, hl1, hr1, _, _⟩ := bytes_of w1
  exact diskHands_walk w a0 len0 cap0 l0 hr0 hl0 a1 len1 cap1 l1 hr1 hl1

set_option maxRecDepth 100000 in
theorem diskHands_lifted (os : Os) (started : os.Started) (H : Type) (enc : TypeId × Value → H) :
    ReturnsInHanded {} Try.checked os 8 .any (Rows.diskHandsSpec.pre6 enc Try.prog Try.f8 Rows.diskHandsRow.domain false) (Rows.diskHandsSpec.post enc Try.prog Try.f8 false true false false) := by
  refine returnsInHanded_of_change (C := Try.checked) own started (by kernel_rfl) Try.func8
    (ChangeSpec.witness6 (enc := enc) (C := Try.checked) false ⟨#[], #[.slice none 0 0, .slice none 0 0], []⟩ 8 (by kernel_rfl) (by kernel_rfl) (by kernel_rfl) (by kernel_rfl)) ?_
  intro W base args ds gs before hval0 hW hcnd _
  have hval : ∀ (j : Nat) t v, Try.f8.params[j]? = some t → args[j]? = some v → Value.okWide Try.prog W .any base t v := hval0
  have hW' := hW
  obtain ⟨p, q, hA0, hV, rfl, hfz, hnd⟩ := hW
  have hA : DataW.TrodAll enc Try.prog W 0 (fun _ => true) true Try.f8.params.toList args.toList ds p := hA0
  rw [Try.params8] at hA hval
  obtain ⟨v0, vs0, d0, ds0, p0, q0, hargs, rfl, rfl, h0, r0⟩ := trodAll_cons hA
  obtain ⟨v1, vs1, d1, ds1, p1, q1, rfl, rfl, rfl, h1, r1⟩ := trodAll_cons r0
  obtain ⟨rfl, rfl, rfl⟩ := trodAll_nil r1
  obtain rfl : args = #[v0, v1] := by cases args; simp_all
  obtain ⟨rfl, rfl⟩ := trodVars_none hV
  obtain ⟨a0, len0, cap0, rfl⟩ := okWide_slice Try.underlying23 (hval 0 23 v0 rfl rfl)
  have k0 := h0
  have lt0 : ∀ x ∈ p0, x.block < W.heap.size := by obtain ⟨m, hm⟩ := k0; exact DataW.trod_lt m _ _ _ hm
  obtain ⟨z0, w0⟩ : ∃ zs, IsRow .u8 W a0 len0 cap0 zs := by
    obtain ⟨fuel, hf⟩ := h0
    rcases open_ints Try.underlying23 Try.underlying5 (by kernel_rfl) hf with ⟨hcs, _⟩ | ⟨x, l, c, zs, hcs, _, hl, hm, hz, _, hcell, hwz⟩
    · simp [Value.cells] at hcs
      obtain ⟨rfl, rfl, rfl⟩ := hcs
      exact ⟨[], .inl ⟨rfl, rfl, rfl, rfl⟩⟩
    · simp [Value.cells] at hcs
      obtain ⟨rfl, rfl, rfl⟩ := hcs
      exact ⟨zs, .inr ⟨_, rfl, hl, hm, by simpa using hz, hcell, hwz⟩⟩
  obtain ⟨a1, len1, cap1, rfl⟩ := okWide_slice Try.underlying23 (hval 1 23 v1 rfl rfl)
  have k1 := h1
  have lt1 : ∀ x ∈ p1, x.block < W.heap.size := by obtain ⟨m, hm⟩ := k1; exact DataW.trod_lt m _ _ _ hm
  obtain ⟨z1, w1⟩ : ∃ zs, IsRow .u8 W a1 len1 cap1 zs := by
    obtain ⟨fuel, hf⟩ := h1
    rcases open_ints Try.underlying23 Try.underlying5 (by kernel_rfl) hf with ⟨hcs, _⟩ | ⟨x, l, c, zs, hcs, _, hl, hm, hz, _, hcell, hwz⟩
    · simp [Value.cells] at hcs
      obtain ⟨rfl, rfl, rfl⟩ := hcs
      exact ⟨[], .inl ⟨rfl, rfl, rfl, rfl⟩⟩
    · simp [Value.cells] at hcs
      obtain ⟨rfl, rfl, rfl⟩ := hcs
      exact ⟨zs, .inr ⟨_, rfl, hl, hm, by simpa using hz, hcell, hwz⟩⟩
  clear hA0 hval0
  refine (diskHands_all a0 len0 cap0 z0 a1 len1 cap1 z1 W w0 w1).mono fun e W' ⟨he, bel⟩ => ?_
  subst he
  exact ⟨_, rfl, _, _, _, [], _, [], hW', trodAll_mk1 (shut_bool Try.underlying4 _), (trodAll_cons_mk (Below.trod laidOut (by kernel_rfl) (of_decide_eq_true (by kernel_rfl)) k0 bel lt0) (trodAll_cons_mk (Below.trod laidOut (by kernel_rfl) (of_decide_eq_true (by kernel_rfl)) k1 bel lt1) trodAll_mk0)), rfl, bel.frame _, fun h => by cases h⟩

theorem diskHands_over : Rows.diskHandsRow.holds Try.pinned (OpenSpec.ofChange Rows.diskHandsSpec) :=
  OpenClaim.holds_of_wide 8 Try.f8 rfl rfl rfl rfl rfl rfl rfl ⟨rfl, rfl, rfl, rfl, rfl⟩ rfl rfl rfl rfl rfl (by kernel_rfl) Try.func8 (by kernel_rfl)
    (of_decide_eq_true (by kernel_rfl)) (by unfold Func.isWrapper; first | (rw [if_pos (by decide +kernel)]; kernel_rfl) | (rw [if_neg (by decide +kernel)]; exact ⟨rfl, rfl⟩))
    (fun os started H enc _ => diskHands_lifted os started H enc)

theorem diskHands_holds : Rows.DiskHandsSaid := diskHands_over
#print axioms diskHands_holds
end Go.Proofs.Ytoniolndoidkcaa
