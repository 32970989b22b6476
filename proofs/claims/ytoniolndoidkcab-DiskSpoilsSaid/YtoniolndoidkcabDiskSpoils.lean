/- DiskSpoils: bytes that are turned are turned for good, read and behind each crash, where the sector was flushed; for every input. -/
import Derived.Test.YtoniolndoidkcabMore
import Derived.BigQuiet
namespace Go.Proofs.Ytoniolndoidkcab
open Go.ChangeShapes Go.WideShapes Go.ChangeAt Go.RowKit
theorem new3 (w : World) : Calls Try.prog 5 #[.int .i64 3] w fun e w' => ∃ q, e = .returned (.tuple #[.pointer (some ⟨q, 0, none⟩), .int .i64 0]) ∧ ∃ p, DiskAt w' q p (fresh 3) ∧ Below w.heap.size w w' ∧ w.heap.size ≤ q ∧ w.heap.size ≤ p := new_any w 3 (by decide)
def soiled (a : List Nat) : Dk := ⟨[blank, ⟨a, zeros, false⟩, blank], 2, none, false⟩
theorem soil1 (a : List Nat) (ha : a.length = 64) : (fresh 3).write 1 a = (⟨[blank, ⟨zeros, a, true⟩, blank], 1, none, false⟩, 0) := by
  have := write_free (d := fresh 3) rfl rfl 1 (by simp [fresh]) a ha
  simpa [fresh, blank] using this
theorem soil2 (a : List Nat) : (Dk.mk [blank, ⟨zeros, a, true⟩, blank] 1 none false).flush = (soiled a, 0) := by
  rw [flush_free rfl rfl]
  simp [clean, Sec.last, blank, soiled]
theorem soil3 (a : List Nat) (k : Nat) (x : List Nat) (h : k + x.length ≤ 64) : (soiled a).lies 1 (k : Int) x.length = true ∧ (soiled a).spoil? 1 (k : Int) x = soiled (over a k x) := by
  have hl : (soiled a).lies 1 (k : Int) x.length = true := by simp [Dk.lies, Dk.has, soiled]; omega
  refine ⟨hl, ?_⟩
  rw [Dk.spoil?, if_pos hl]
  simp [Dk.spoil, soiled, spoilt]
theorem soil4 (a : List Nat) (k : Nat) (x : List Nat) (h : ¬ k + x.length ≤ 64) : (soiled a).lies 1 (k : Int) x.length = false ∧ (soiled a).spoil? 1 (k : Int) x = soiled a := by
  have hl : (soiled a).lies 1 (k : Int) x.length = false := by simp [Dk.lies, Dk.has, soiled]; omega
  refine ⟨hl, ?_⟩
  rw [Dk.spoil?, if_neg (by simp [hl])]
theorem soil5 (a : List Nat) : (soiled a).read 1 = a := by simp [soiled, Dk.read, Sec.last]
theorem soil6 (a c : List Nat) : ((soiled a).crash c).read 1 = a := by
  simp [soiled, Dk.crash, crashL, crashAt, crashed, Dk.read, Sec.last, blank, List.range_succ]
theorem soil7 (a : List Nat) (n : Nat) : (soiled a).lies 3 0 n = false := by simp [Dk.lies, Dk.has, soiled]
theorem write1 {w : World} {q p : Nat} {d : Dk} (h : DiskAt w q p d) (hops : d.ops < 1000000000) (a : Option Addr) (b : List Nat) (hr : Row w a b) (hb : b.length = 64) (cap : Nat) :
    Calls Try.prog 6 #[.pointer (some ⟨q, 0, none⟩), .int .i64 1, .slice a 64 cap] w fun e w' => e = .returned (.int .i64 (d.write 1 b).2) ∧ DiskAt w' q p (d.write 1 b).1 ∧ Only q (some p) w w' := write_any h hops 1 a b 64 cap hr hb
theorem far {w : World} {a : Option Addr} {l : List Nat} (hr : Row w a l) (hne : l ≠ []) (p : Nat) (hp : w.heap.size ≤ p) : Apart a p := by
  rcases hr.2 with h | ⟨b, off, rfl, hlt, _⟩
  · exact absurd h hne
  · intro x hx
    simp at hx
    rw [← hx]
    show b ≠ p
    omega
set_option maxRecDepth 20000 in
set_option maxHeartbeats 4000000 in
theorem diskSpoils_walk (w : World) (a0 : Option Addr) (n0 cap0 : Nat) (l0 : List Nat) (hr0 : Row w a0 l0) (hl0 : l0.length = n0) (a1 : Option Addr) (n1 cap1 : Nat) (l1 : List Nat) (hr1 : Row w a1 l1) (hl1 : l1.length = n1) (c : Nat) (hc : c < 256) (a2 : Option Addr) (n2 cap2 : Nat) (l2 : List Nat) (hr2 : Row w a2 l2) (hl2 : l2.length = n2) :
    Calls Try.prog 3 #[.agg #[.slice a0 n0 cap0, .slice a1 n1 cap1], .int .u8 (c : Int), .slice a2 n2 cap2] w fun e w' => e = .returned (.bool true) ∧ Below w.heap.size w w' := by
  have HR0 := hid hr0
  have HR1 := hid hr1
  have HR2 := hid hr2
  have HL0 := hid hl0
  have HL1 := hid hl1
  have HL2 := hid hl2
  have HF0 := hid (bytes_full hr0.1)
  clear hr0 hr1 hr2 hl0 hl1 hl2
  go_enter Try.func3, Try.ntmps3
  go_wp2_with fail
  have hbx := below_one w (.cells #[.slice a0 n0 cap0, .slice a1 n1 cap1] 23)
  have hx0 : (w.alloc (.cells #[.slice a0 n0 cap0, .slice a1 n1 cap1] 23)).cell? ⟨w.heap.size, 0, none⟩ = some (.slice a0 n0 cap0) := by
    rw [cell_of_row _ _ _ _ 23 (0, 0) (heap_alloc_new w _)]; rfl
  have hx1 : (w.alloc (.cells #[.slice a0 n0 cap0, .slice a1 n1 cap1] 23)).cell? ⟨w.heap.size, 1, none⟩ = some (.slice a1 n1 cap1) := by
    rw [cell_of_row _ _ _ _ 23 (0, 0) (heap_alloc_new w _)]; rfl
  refine (awake_any _).mono ?_
  rintro e w2 ⟨rfl, hb2⟩
  have hc0 := (hb2.cell (p := ⟨w.heap.size, 0, none⟩) (by simp)).trans hx0
  have hc1 := (hb2.cell (p := ⟨w.heap.size, 1, none⟩) (by simp)).trans hx1
  have HBw2 := hid (hbx.trans (hb2.mono hbx.size))
  clear hb2 hbx hx0 hx1
  go_wp2_with fail
  go_quiet (fail)
  have HBv := hid (show Below w.heap.size w (w2.drewN nq) from ⟨HBw2.out.os, HBw2.out.tape, HBw2.out.output, HBw2.out.size, HBw2.out.block⟩)
  clear hc0 hc1 HBw2
  generalize w2.drewN nq = v2 at HBv ⊢
  by_cases h100 : 100 < n0
  · have t0 : (100 : Int) < (n0 : Int) := by omega
    clear h100
    go_wp2_with fail
    go_ret
    exact ⟨rfl, HBv.out⟩
  have t0 : ¬ (100 : Int) < (n0 : Int) := by omega
  by_cases h101 : n1 < 1
  · have t1 : (n1 : Int) < 1 := by omega
    clear h101
    go_wp2_with fail
    go_ret
    exact ⟨rfl, HBv.out⟩
  have t1 : ¬ (n1 : Int) < 1 := by omega
  by_cases h102 : 100 < n1
  · have t2 : (100 : Int) < (n1 : Int) := by omega
    clear h102
    go_wp2_with fail
    go_ret
    exact ⟨rfl, HBv.out⟩
  have t2 : ¬ (100 : Int) < (n1 : Int) := by omega
  by_cases h103 : 100 < n2
  · have t3 : (100 : Int) < (n2 : Int) := by omega
    clear h103
    go_wp2_with fail
    go_ret
    exact ⟨rfl, HBv.out⟩
  have t3 : ¬ (100 : Int) < (n2 : Int) := by omega
  have HNE : Hid (l1 ≠ []) := fun e => by have := HL1.out; rw [e] at this; simp at this; omega
  go_wp2_with fail
  refine (new3 v2).mono ?_
  rintro e w3 ⟨q, rfl, p, hd, hb, hq, hp⟩
  have HBw3 := hid (HBv.out.trans (hb.mono HBv.out.size))
  have HDw3 := hid hd
  have HQ := hid (Nat.le_trans HBv.out.size hq)
  have HP := hid (Nat.le_trans HBv.out.size hp)
  clear hd hb hq hp HBv
  go_wp2_with fail
  refine (full_any w3 a0 l0 n0 _ (HR0.out.below HBw3.out) HL0.out (by omega)).mono ?_
  rintro e w4 ⟨g, rfl, hg, hb, -⟩
  have HBw4 := hid (HBw3.out.trans (hb.mono HBw3.out.size))
  have HDw4 := hid (HDw3.out.below hb)
  have HG := hid hg
  clear hg hb HBw3 HDw3
  go_wp2_with fail
  refine (write1 HDw4.out (by decide) _ (full l0) HG.out.row HF0.out.1 64).mono ?_
  rintro e w5 ⟨rfl, hd, ho⟩
  have HBw5 := hid (HBw4.out.trans (ho.low HQ.out HP.out HBw4.out.size))
  rw [soil1 _ HF0.out.1] at hd ⊢
  have HDw5 := hid hd
  clear hd ho HDw4 HBw4 HG
  go_wp2_with fail
  refine (flush_any HDw5.out (by simp)).mono ?_
  rintro e w6 ⟨rfl, hd, ho⟩
  have HBw6 := hid (HBw5.out.trans (ho.low HQ.out HP.out HBw5.out.size))
  rw [soil2] at hd ⊢
  have HDw6 := hid hd
  clear hd ho HDw5 HBw5
  have htm : Int.tmod (c : Int) 64 = ((c % 64 : Nat) : Int) := by rw [Int.tmod_eq_emod_of_nonneg (by omega)]; simp
  have hmd : (c : Int) % 64 = ((c % 64 : Nat) : Int) := by simp
  have hk64 : c % 64 < 64 := Nat.mod_lt _ (by decide)
  generalize c % 64 = k at *
  go_wp2_with fail
  refine (spoil_any HDw6.out 1 (k : Int) a1 l1 n1 cap1 (HR1.out.below HBw6.out) HL1.out HNE.out (far HR1.out HNE.out p HP.out) (by omega)).mono ?_
  rintro e w7 ⟨rfl, hd, ho⟩
  have HBw7 := hid (HBw6.out.trans (ho.low HQ.out HP.out HBw6.out.size))
  have HDw7 := hid hd
  have HS3 := hid (soil3 (full l0) k l1)
  have HS4 := hid (soil4 (full l0) k l1)
  clear hd ho HDw6 HBw6
  by_cases hfit : k + n1 ≤ 64
  · obtain ⟨e1, e2⟩ := HS3.out (by rw [HL1.out]; exact hfit)
    rw [HL1.out] at e1
    rw [e2] at HDw7
    rw [e1]
    have u1 : (k : Int) + (n1 : Int) ≤ 64 := by omega
    clear e1 e2
    go_wp2_with fail
    refine (full_any w7 a0 l0 n0 _ (HR0.out.below HBw7.out) HL0.out (by omega)).mono ?_
    rintro e w8 ⟨g, rfl, hg, hb, hgn⟩
    have HBw8 := hid (HBw7.out.trans (hb.mono HBw7.out.size))
    have HDw8 := hid (HDw7.out.below hb)
    have hgh := hid (show w8.heap[g]? = some (.cells (vals (full l0)).toArray 5 (0, 0)) from hg.1)
    have HGN := hid (Nat.le_trans HBw7.out.size hgn)
    have HNO := hid (hg.no HDw8.out)
    clear hg hb hgn HDw7 HBw7
    have HMin : Hid (l1.length = Nat.min n1 (64 - k)) := by
      show _ = _
      rw [HL1.out]
      exact (Nat.min_eq_left (show n1 ≤ 64 - k by omega)).symm
    have HFt : Hid (k + l1.length ≤ (vals (full l0)).length) := by show _ ≤ _; rw [vals_len, HF0.out.1, HL1.out]; exact hfit
    have hr18 := hid (HR1.out.below HBw8.out)
    have hk1 : ¬ (64 = k) := by omega
    have hk2 : (k : Int) ≤ 64 := by omega
    have tok : True := trivial
    have HOV := hid (bytes_over HF0.out k HR1.out.1 (by rw [HL1.out]; exact hfit))
    go_wp2_with (have _t := tok; refine step_copy rfl _ _ rfl g k (64 - k) (64 - k) a1 n1 cap1 rfl rfl _ 5 hgh.out l1 HMin.out hr18.out HFt.out ?_; intro w9 hw9; have HW9 := hid hw9; clear tok hw9)
    have hw9 := HW9.out
    rw [vals_over] at hw9
    have hg9 : Buf w9 g (over (full l0) k l1) := ⟨by rw [hw9]; exact setRow_heap _ g _ _ 5 _ hgh.out, HOV.out.2⟩
    have hb9 : Below w.heap.size w w9 := by rw [hw9]; exact below_setRow HBw8.out HGN.out _
    have hd9 : DiskAt w9 q p (soiled (over (full l0) k l1)) := by
      rw [hw9]
      exact HDw8.out.kept (setRow_other _ g q _ (Ne.symm HNO.out.1)) (setRow_other _ g p _ (Ne.symm HNO.out.2))
    have HGw9 := hid hg9
    have HBw9 := hid hb9
    have HDw9 := hid hd9
    clear hw9 hg9 hb9 hd9 HW9 HDw8 HBw8 hgh
    generalize hF : over (full l0) k l1 = F at *
    have HLF : Hid (F.length = 64) := HOV.out.1
    refine (read1 HDw9.out rfl (by simp [soiled])).mono ?_
    rintro e w10 ⟨g10, rfl, hg, hb, -⟩
    rw [soil5] at hg
    have HBw10 := hid (HBw9.out.trans (hb.mono HBw9.out.size))
    have HDw10 := hid (HDw9.out.below hb)
    have HGw10 := hid (HGw9.out.below hb)
    have HYw10 := hid hg
    clear hg hb HBw9 HDw9 HGw9
    go_wp2_with fail
    refine (crash_any HDw10.out a2 l2 n2 cap2 (HR2.out.below HBw10.out) HL2.out (by omega)).mono ?_
    rintro e w11 ⟨x, rfl, xp, hx, hb, -, -⟩
    have HBw11 := hid (HBw10.out.trans (hb.mono HBw10.out.size))
    have HDw11 := hid (HDw10.out.below hb)
    have HGw11 := hid (HGw10.out.below hb)
    have HYw11 := hid (HYw10.out.below hb)
    have HX := hid hx
    clear hx hb HBw10 HDw10 HGw10 HYw10
    go_wp2_with fail
    refine (read1 HX.out rfl (by simp [soiled, Dk.crash, crashL])).mono ?_
    rintro e w12 ⟨g12, rfl, hg, hb, -⟩
    rw [soil6] at hg
    have HBw12 := hid (HBw11.out.trans (hb.mono HBw11.out.size))
    have HDw12 := hid (HDw11.out.below hb)
    have hs1 := str_all (HYw11.out.below hb) 64 64 HLF.out w12 (Below.refl _ _)
    have hs2 := str_all (HGw11.out.below hb) 64 64 HLF.out w12 (Below.refl _ _)
    have hs3 := str_all hg 64 64 HLF.out w12 (Below.refl _ _)
    generalize strOf F = SS at hs1 hs2 hs3
    clear hg hb HBw11 HDw11 HGw11 HYw11 HX
    go_wp2_with fail
    refine (spoil_no HDw12.out 3 0 a1 n1 cap1 (by omega) (soil7 _ _)).mono ?_
    rintro e w13 ⟨rfl, rfl⟩
    go_wp2_with fail
    go_ret
    exact ⟨rfl, HBw12.out⟩
  · obtain ⟨e1, e2⟩ := HS4.out (by rw [HL1.out]; exact hfit)
    rw [HL1.out] at e1
    rw [e2] at HDw7
    rw [e1]
    have u1 : ¬ (k : Int) + (n1 : Int) ≤ 64 := by omega
    have u2 : decide ((k : Int) + (n1 : Int) ≤ 64) = false := decide_eq_false u1
    clear e1 e2
    go_wp2_with fail
    refine (full_any w7 a0 l0 n0 _ (HR0.out.below HBw7.out) HL0.out (by omega)).mono ?_
    rintro e w9 ⟨g, rfl, hg, hb, hgn⟩
    have HBw9 := hid (HBw7.out.trans (hb.mono HBw7.out.size))
    have HDw9 := hid (HDw7.out.below hb)
    have HGw9 := hid hg
    clear hg hb hgn HDw7 HBw7
    generalize hF : full l0 = F at *
    have HLF : Hid (F.length = 64) := HF0.out.1
    go_wp2_with fail
    refine (read1 HDw9.out rfl (by simp [soiled])).mono ?_
    rintro e w10 ⟨g10, rfl, hg, hb, -⟩
    rw [soil5] at hg
    have HBw10 := hid (HBw9.out.trans (hb.mono HBw9.out.size))
    have HDw10 := hid (HDw9.out.below hb)
    have HGw10 := hid (HGw9.out.below hb)
    have HYw10 := hid hg
    clear hg hb HBw9 HDw9 HGw9
    go_wp2_with fail
    refine (crash_any HDw10.out a2 l2 n2 cap2 (HR2.out.below HBw10.out) HL2.out (by omega)).mono ?_
    rintro e w11 ⟨x, rfl, xp, hx, hb, -, -⟩
    have HBw11 := hid (HBw10.out.trans (hb.mono HBw10.out.size))
    have HDw11 := hid (HDw10.out.below hb)
    have HGw11 := hid (HGw10.out.below hb)
    have HYw11 := hid (HYw10.out.below hb)
    have HX := hid hx
    clear hx hb HBw10 HDw10 HGw10 HYw10
    go_wp2_with fail
    refine (read1 HX.out rfl (by simp [soiled, Dk.crash, crashL])).mono ?_
    rintro e w12 ⟨g12, rfl, hg, hb, -⟩
    rw [soil6] at hg
    have HBw12 := hid (HBw11.out.trans (hb.mono HBw11.out.size))
    have HDw12 := hid (HDw11.out.below hb)
    have hs1 := str_all (HYw11.out.below hb) 64 64 HLF.out w12 (Below.refl _ _)
    have hs2 := str_all (HGw11.out.below hb) 64 64 HLF.out w12 (Below.refl _ _)
    have hs3 := str_all hg 64 64 HLF.out w12 (Below.refl _ _)
    generalize strOf F = SS at hs1 hs2 hs3
    clear hg hb HBw11 HDw11 HGw11 HYw11 HX
    go_wp2_with fail
    refine (spoil_no HDw12.out 3 0 a1 n1 cap1 (by omega) (soil7 _ _)).mono ?_
    rintro e w13 ⟨rfl, rfl⟩
    go_wp2_with fail
    go_ret
    exact ⟨rfl, HBw12.out⟩
set_option linter.unusedVariables false
theorem row_in {H : Type} {enc : TypeId × Value → H} {W : World} {fuel : Nat} {c : Value} {x : DataW H × List MemPlace} (hf : DataW.trod enc Try.prog W 0 (fun _ => true) true fuel 22 [c] = some x) : ∃ a len cap zs, c = .slice a len cap ∧ IsRow .u8 W a len cap zs := by
  rcases open_ints Try.underlying22 Try.underlying5 (by kernel_rfl) hf with ⟨hcs, _⟩ | ⟨x, l, c, zs, hcs, _, hl, hm, hz, _, hcell, hwz⟩
  · simp at hcs
    exact ⟨none, 0, 0, [], hcs, .inl ⟨rfl, rfl, rfl, rfl⟩⟩
  · simp at hcs
    exact ⟨some x, l, c, zs, hcs, .inr ⟨_, rfl, hl, hm, by simpa using hz, hcell, hwz⟩⟩
theorem list2 {α : Type} (l : List α) (h : l.length = 2) : ∃ a b, l = [a, b] := by
  match l, h with
  | [a, b], _ => exact ⟨a, b, rfl⟩
set_option maxRecDepth 100000 in
theorem diskSpoils_lifted (os : Os) (started : os.Started) (H : Type) (enc : TypeId × Value → H) :
    ReturnsInHanded {} Try.checked os 3 .any (Rows.diskSpoilsSpec.pre6 enc Try.prog Try.f3 Rows.diskSpoilsRow.domain false) (Rows.diskSpoilsSpec.post enc Try.prog Try.f3 false true false false) := by
  refine returnsInHanded_of_change (C := Try.checked) own started (by kernel_rfl) Try.func3
    (ChangeSpec.witness6 (enc := enc) (C := Try.checked) false ⟨#[], #[.agg #[.slice none 0 0, .slice none 0 0], .int .u8 0, .slice none 0 0], []⟩ 8 (by kernel_rfl) (by kernel_rfl) (by kernel_rfl) (by kernel_rfl)) ?_
  intro W base args ds gs before hval0 hW hcnd _
  have hval : ∀ (j : Nat) t v, Try.f3.params[j]? = some t → args[j]? = some v → Value.okWide Try.prog W .any base t v := hval0
  have hW' := hW
  obtain ⟨p, q, hA0, hV, rfl, hfz, hnd⟩ := hW
  have hA : DataW.TrodAll enc Try.prog W 0 (fun _ => true) true Try.f3.params.toList args.toList ds p := hA0
  rw [Try.params3] at hA hval
  obtain ⟨v0, vs0, d0, ds0, p0, q0, hargs, rfl, rfl, h0, r0⟩ := trodAll_cons hA
  obtain ⟨v1, vs1, d1, ds1, p1, q1, rfl, rfl, rfl, h1, r1⟩ := trodAll_cons r0
  obtain ⟨v2, vs2, d2, ds2, p2, q2, rfl, rfl, rfl, h2, r2⟩ := trodAll_cons r1
  obtain ⟨rfl, rfl, rfl⟩ := trodAll_nil r2
  obtain rfl : args = #[v0, v1, v2] := by cases args; simp_all
  obtain ⟨rfl, rfl⟩ := trodVars_none hV
  have k0 := h0
  have lt0 : ∀ x ∈ p0, x.block < W.heap.size := by obtain ⟨m, hm⟩ := k0; exact DataW.trod_lt m _ _ _ hm
  have k2 := h2
  have lt2 : ∀ x ∈ p2, x.block < W.heap.size := by obtain ⟨m, hm⟩ := k2; exact DataW.trod_lt m _ _ _ hm
  obtain ⟨a3, len3, cap3, z3, a4, len4, cap4, z4, rfl, w3, w4⟩ : ∃ a3 len3 cap3 z3 a4 len4 cap4 z4, v0 = .agg #[.slice a3 len3 cap3, .slice a4 len4 cap4] ∧ IsRow .u8 W a3 len3 cap3 z3 ∧ IsRow .u8 W a4 len4 cap4 z4 := by
    obtain ⟨cs, rfl, hsz, _⟩ : ∃ cs, v0 = .agg cs ∧ cs.size = Try.prog.cellsOf 23 ∧ Row.okWide Try.prog W .any base 23 cs := by
      have := hval 0 23 v0 rfl rfl
      simpa [Value.okWide, Try.underlying23] using this
    have hc23 : Try.prog.cellsOf 23 = 2 := by kernel_rfl
    have hc22 : Try.prog.cellsOf 22 = 1 := by kernel_rfl
    rw [hc23] at hsz
    obtain ⟨l⟩ := cs
    obtain ⟨c0, c1, rfl⟩ := list2 l hsz
    obtain ⟨fuel, hf⟩ := h0
    obtain ⟨xs, m, rfl, _, _, hxs, hx⟩ := DataW.trod_array Try.underlying23 hf
    obtain ⟨y0, y1, rfl⟩ := list2 xs hxs
    have e0 := hx 0 (by decide)
    have e1 := hx 1 (by decide)
    rw [hc22] at e0 e1
    simp [Value.cells] at e0 e1
    obtain ⟨a3, len3, cap3, z3, rfl, w3⟩ := row_in e0
    obtain ⟨a4, len4, cap4, z4, rfl, w4⟩ := row_in e1
    exact ⟨a3, len3, cap3, z3, a4, len4, cap4, z4, rfl, w3, w4⟩
  obtain ⟨a1, rfl, rfl, rfl, w1⟩ := open_int Try.underlying5 (hval 1 5 v1 rfl rfl) h1
  obtain ⟨a2, len2, cap2, rfl⟩ := okWide_slice Try.underlying22 (hval 2 22 v2 rfl rfl)
  obtain ⟨z2, w2⟩ : ∃ zs, IsRow .u8 W a2 len2 cap2 zs := by
    obtain ⟨fuel, hf⟩ := h2
    rcases open_ints Try.underlying22 Try.underlying5 (by kernel_rfl) hf with ⟨hcs, _⟩ | ⟨x, l, c, zs, hcs, _, hl, hm, hz, _, hcell, hwz⟩
    · simp [Value.cells] at hcs
      obtain ⟨rfl, rfl, rfl⟩ := hcs
      exact ⟨[], .inl ⟨rfl, rfl, rfl, rfl⟩⟩
    · simp [Value.cells] at hcs
      obtain ⟨rfl, rfl, rfl⟩ := hcs
      exact ⟨zs, .inr ⟨_, rfl, hl, hm, by simpa using hz, hcell, hwz⟩⟩
  obtain ⟨l3, hl3, hr3, _, _⟩ := bytes_of w3
  obtain ⟨l4, hl4, hr4, _, _⟩ := bytes_of w4
  obtain ⟨l2, hl2, hr2, _, _⟩ := bytes_of w2
  obtain ⟨c, rfl, hc⟩ : ∃ c : Nat, a1 = (c : Int) ∧ c < 256 := ⟨a1.toNat, by have := nat_u8 w1; omega, by have := nat_u8 w1; omega⟩
  clear hA0 hval0
  refine (diskSpoils_walk W a3 len3 cap3 l3 hr3 hl3 a4 len4 cap4 l4 hr4 hl4 c hc a2 len2 cap2 l2 hr2 hl2).mono fun e W' ⟨he, bel⟩ => ?_
  subst he
  exact ⟨_, rfl, _, _, _, [], _, [], hW', trodAll_mk1 (shut_bool Try.underlying4 _), (trodAll_cons_mk (Below.trod laidOut (by kernel_rfl) (of_decide_eq_true (by kernel_rfl)) k0 bel lt0) (trodAll_cons_mk (shut_int Try.underlying5 w1) (trodAll_cons_mk (Below.trod laidOut (by kernel_rfl) (of_decide_eq_true (by kernel_rfl)) k2 bel lt2) trodAll_mk0))), rfl, bel.frame _, fun h => by cases h⟩

theorem diskSpoils_over : Rows.diskSpoilsRow.holds Try.pinned (OpenSpec.ofChange Rows.diskSpoilsSpec) :=
  OpenClaim.holds_of_wide 3 Try.f3 rfl rfl rfl rfl rfl rfl rfl ⟨rfl, rfl, rfl, rfl, rfl⟩ rfl rfl rfl rfl rfl (by kernel_rfl) Try.func3 (by kernel_rfl)
    (of_decide_eq_true (by kernel_rfl)) (by unfold Func.isWrapper; first | (rw [if_pos (by decide +kernel)]; kernel_rfl) | (rw [if_neg (by decide +kernel)]; exact ⟨rfl, rfl⟩))
    (fun os started H enc _ => diskSpoils_lifted os started H enc)
theorem diskSpoils_holds : Rows.DiskSpoilsSaid := diskSpoils_over
#print axioms diskSpoils_holds
end Go.Proofs.Ytoniolndoidkcab
