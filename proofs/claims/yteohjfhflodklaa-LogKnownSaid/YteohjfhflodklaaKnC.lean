/- Append on a disk whose fuse has burnt down: it is refused, what it took is given back, and the disk is dead. Condition: fewer than a million operations. -/
import Derived.Test.YteohjfhflodklaaKnB
namespace Go.Proofs.Yteohjfhflodklaa
open Go.RowKit Pen
open Crc (four nx run)
set_option maxRecDepth 4000
set_option linter.unusedVariables false
/-- How a log, its disk and its space stand, where the fuse of the disk has burnt down. -/
structure Ldie (w : World) (g q p x : Nat) (d : Dk) (k mm : Nat) (segs : List Nat) (n last boot : Nat) : Prop where
  log : LogAt w g q segs n last boot
  disk : DiskAt w q p d
  space : Sp.SpAt w x k (Sp.upTo mm)
  dead : d.dead = false
  fuse : d.fuse = some 0
  room : 8 + 8 * k ≤ d.secs.length
  le : mm ≤ k
  low : ∀ s ∈ segs, s < mm
  fit : n ≤ 8 * segs.length
  few : segs.length ≤ mm
set_option maxRecDepth 20000 in
set_option maxHeartbeats 4000000 in
theorem append_dead {w : World} {g q p x : Nat} {d : Dk} {k mm : Nat} {segs : List Nat} {n last boot : Nat} (h : Ldie w g q p x d k mm segs n last boot) (bt : Nat) (a : Option Addr) (r : List Nat) (l c : Nat) (hl : r.length = l) (hr : Row w a r) (hm : MayBe bt r) (hops : d.ops ≤ 900000) (hroom : segsN (n + secsN r) ≤ segs.length + (k - mm)) :
    Calls Try.prog 16 #[.pointer (some ⟨g, 0, none⟩), .pointer (some ⟨x, 0, none⟩), .int .i64 (bt : Int), .slice a l c] w fun e w' => e = .returned (.int .i64 15) ∧ DiskAt w' q p (gone d) ∧ But (fun j => j = q ∨ j = p ∨ j = x) w w' := by
  obtain ⟨hm1, hm2, _, hm4⟩ := hm
  have c3 := h.log.c3
  have H := hid h
  have HM := hid (make_any last bt a r l c w h.log.last (by omega) hl (by omega) (by omega) hr)
  have HL := hid hl
  have HRO := hid hroom
  have hlen := h.log.len
  have hnle := h.log.nle
  have hk96 := h.space.le
  have hmk := h.le
  have hgl := h.log.glt
  have hfew := h.few
  have hl16 : l ≤ 16384 := by omega
  clear h hr hl hroom
  go_enter Try.func16, Try.ntmps16
  go_wp2_with fail
  refine HM.out.mono ?_
  rintro e w1 ⟨gF, cF, rfl, hmi, hb1⟩
  have c2 := (H.out.log.below hb1).c2
  obtain ⟨a1, c1, hc1, hsr, _, _, hz1⟩ := (H.out.log.below hb1).c1
  have HMI := hid hmi
  have HB1 := hid hb1
  have hq1 : ∀ j, Calls Try.prog 30 #[.int .i64 ((l + 16 : Nat) : Int), .int .i64 54] (w1.drewN j) fun e w' => e = .returned (.int .i64 (cnt (l + 16) : Nat)) ∧ ∃ i, w' = w1.drewN i := fun j => quiet30 (by omega) j
  have hsr1 := hid (And.intro hsr hz1)
  generalize hC : cnt (l + 16) = C at *
  have HCP : Hid (0 < C) := by show _ < _; rw [← hC]; unfold cnt; omega
  have hCle : C ≤ 400 := by rw [← hC]; unfold cnt; omega
  clear HM c3 hmi hb1 hsr hz1
  go_wp2_with fail
  go_quiet (exact hq1 _)
  have hb2 : Below w1.heap.size w1 (w1.drewN nq) := ⟨rfl, rfl, rfl, Nat.le_refl _, fun _ _ => rfl⟩
  have HB2 := hid (below_tr HB1.out hb2 HB1.out.size)
  have c1b : (w1.drewN nq).cell? ⟨g, 1, none⟩ = some (.slice a1 segs.length c1) := hc1
  have HMI2 := hid (HMI.out.below hb2)
  have HSR2 := hid (hsr1.out.1.below hb2)
  generalize w1.drewN nq = w2 at *
  have hq2 : ∀ j, Calls Try.prog 30 #[.int .i64 ((n + C : Nat) : Int), .int .i64 8] (w2.drewN j) fun e w' => e = .returned (.int .i64 ((n + C + 7) / 8 : Nat)) ∧ ∃ i, w' = w2.drewN i := fun j => quiet30' (by omega) j
  generalize hE : n + C = E at *
  have hE' : (n : Int) + (C : Int) = (E : Int) := by omega
  generalize hKK : (E + 7) / 8 = KK at *
  clear hq1 hb2 hc1 c2
  go_wp2_with fail
  go_quiet (exact hq2 _)
  have hb3 : Below w2.heap.size w2 (w2.drewN nq) := ⟨rfl, rfl, rfl, Nat.le_refl _, fun _ _ => rfl⟩
  have HB3 := hid (below_tr HB2.out hb3 HB2.out.size)
  have HMI3 := hid (HMI2.out.below hb3)
  have HSR3 := hid (HSR2.out.below hb3)
  generalize w2.drewN nq = w3 at *
  clear hq2 hb3 c1b HMI2 HSR2 HB2 HB1 HMI
  have hkk : KK ≤ 200 := by omega
  obtain ⟨kk, hkkl⟩ : ∃ kk, segs.length = kk := ⟨_, rfl⟩
  rw [hkkl] at hlen hfew ⊢
  have HKL := hid hkkl
  have HEQ : Hid (segsN (n + secsN r) = KK ∧ n + secsN r = E) := by
    have e1 : secsN r = C := by unfold secsN; rw [HL.out, hC]
    refine ⟨?_, by rw [e1, hE]⟩
    rw [e1, hE]; exact hKK
  have HNE : Hid (n + cnt (l + 16) = E) := by show _ = _; rw [hC, hE]
  have hEle : E ≤ 8 * KK := by omega
  have hEK : E ≤ 1600 := by omega
  have hKp : 0 < KK := by have := HCP.out; omega
  clear hE hKK hC hkkl
  go_wp2_with fail
  refine (Sp.free_any (H.out.space.below HB3.out)).mono ?_
  rintro e w4 ⟨rfl, n4, rfl⟩
  rw [nfree_upTo mm k hk96]
  have hb4 : Below w3.heap.size w3 (w3.drewN n4) := ⟨rfl, rfl, rfl, Nat.le_refl _, fun _ _ => rfl⟩
  have HB4 := hid (below_tr HB3.out hb4 HB3.out.size)
  have HMI4 := hid (HMI3.out.below hb4)
  have HSR4 := hid (HSR3.out.below hb4)
  generalize w3.drewN n4 = w4 at *
  clear hb4 HB3 HMI3 HSR3
  by_cases hfull : KK ≤ kk + (k - mm)
  · have hf' : ¬ ((k - mm : Nat) : Int) < (KK : Int) - (kk : Int) := by omega
    have HFU : Hid (segsN (n + secsN r) ≤ segs.length + (k - mm)) := by show _ ≤ _; rw [HEQ.out.1, HKL.out]; exact hfull
    go_wp2_with fail
    refine (take_segs (H.out.space.below HB4.out) ((KK : Int) - (kk : Int)) (by omega) (by omega)).mono ?_
    rintro e w5 ⟨v5, rfl, hov, hsp5, hb5⟩
    obtain ⟨zt, hzt⟩ : ∃ zt, KK - kk = zt := ⟨_, rfl⟩
    rw [show ((KK : Int) - (kk : Int)).toNat = zt by omega] at hov hsp5
    have hxt := (H.out.space.below HB4.out).tag
    have hgx : g ≠ x := H.out.log.tag.ne H.out.space.tag (by decide)
    have hni : NoInts (fun j => j = x) w4 := noInts_of (fun j e => ⟨69, e ▸ hxt, by decide⟩)
    have hL5 := (H.out.log.below HB4.out).but hb5 hni hgx
    have hR5 := (HMI4.out.row.2).but hb5 (fun v e => by simp at e; subst e; simp only; have := HMI4.out.row; have h2 := H.out.space.lt; have h3 := owns_block HMI4.out.2.2 gF rfl; omega)
    obtain ⟨a5, c5, rfl, hsr5, hc5, hm5, hz5⟩ := srow_of_owns hov
    rw [iv_len, List.length_range'] at hc5 ⊢
    obtain ⟨a1', c1', hc1', hsr1', hc1l, hc1m, hz1'⟩ := hL5.c1
    rw [HKL.out] at hc1' hc1l
    have hc0 := hL5.c0
    have HQ := hid (And.intro hL5 (And.intro hR5 (And.intro hsp5 hb5)))
    have HS1 := hid (And.intro hsr1' hsr5)
    clear hov hsp5 hb5 hxt hni hL5 hR5 hsr5 hsr1'
    go_wp2_with fail
    refine Go.wp_mono (Q := fun e a' w' => e = Exit.normal ∧ ∃ v69 v70 v74 G, a' = { tmps := #[Value.pointer (some { block := g, off := 0 }), Value.pointer (some { block := x, off := 0 }), Value.int IntKind.i64 ↑bt, Value.slice a l c, undef, undef, undef, undef, Value.int IntKind.i64 0, Value.slice (some { block := gF, off := 0 }) (l + 16) cF, Value.int IntKind.u32 ↑(nx last r), Value.int IntKind.i64 0, Value.int IntKind.i64 ↑E, Value.int IntKind.i64 (↑KK - ↑kk), Value.slice a5 zt c5, Value.pointer (some { block := G, off := 0 }), undef, Value.pointer (some { block := g, off := 0 }), Value.bool false, Value.bool false, Value.pointer (some { block := x, off := 0 }), Value.bool false, Value.bool false, Value.tuple #[Value.slice (some { block := gF, off := 0 }) (l + 16) cF, Value.int IntKind.u32 ↑(nx last r), Value.int IntKind.i64 0], Value.pointer (some { block := g, off := 0 }), Value.pointer (some { block := g, off := 0 }), Value.pointer (some { block := g, off := 3 }), Value.int IntKind.u32 ↑last, Value.int IntKind.i64 ↑bt, Value.slice a l c, Value.tuple #[Value.slice (some { block := gF, off := 0 }) (l + 16) cF, Value.int IntKind.u32 ↑(nx last r), Value.int IntKind.i64 0], Value.slice (some { block := gF, off := 0 }) (l + 16) cF, Value.int IntKind.u32 ↑(nx last r), Value.int IntKind.i64 0, Value.int IntKind.i64 0, Value.bool false, undef, Value.pointer (some { block := g, off := 0 }), Value.pointer (some { block := g, off := 0 }), Value.pointer (some { block := g, off := 2 }), Value.int IntKind.i64 ↑n, Value.slice (some { block := gF, off := 0 }) (l + 16) cF, Value.int IntKind.i64 (↑l + 16), Value.int IntKind.i64 ↑C, Value.int IntKind.i64 ↑E, Value.int IntKind.i64 ↑E, Value.int IntKind.i64 ↑KK, Value.pointer (some { block := g, off := 0 }), Value.pointer (some { block := g, off := 0 }), Value.pointer (some { block := g, off := 1 }), Value.slice a1 kk c1, Value.int IntKind.i64 ↑kk, Value.int IntKind.i64 (↑KK - ↑kk), Value.int IntKind.i64 (↑KK - ↑kk), Value.pointer (some { block := x, off := 0 }), Value.int IntKind.i64 ↑(k - mm), Value.bool (decide (((k - mm : Nat) : Int) < (KK : Int) - (kk : Int))), Value.pointer (some { block := x, off := 0 }), Value.int IntKind.i64 (↑KK - ↑kk), Value.slice a5 zt c5, Value.pointer (some { block := g, off := 0 }), Value.pointer (some { block := g, off := 0 }), Value.pointer (some { block := g, off := 0 }), Value.pointer (some { block := q, off := 0 }), Value.pointer (some { block := g, off := 0 }), Value.pointer (some { block := g, off := 0 }), Value.pointer (some { block := g, off := 1 }), Value.slice a1' kk c1', Value.slice a5 zt c5, v69, v70, Value.int IntKind.i64 ↑E, Value.int IntKind.u32 ↑(nx last r), Value.int IntKind.i64 ↑bt, v74, undef, undef, undef, undef, undef, undef, undef, undef, undef, undef, undef, undef, undef, undef, undef], defers := [] } ∧ Grown q segs (List.range' mm zt) E (nx last r) bt w5 w' G) ?region ?rest
    case region =>
      have hlr : (List.range' mm zt).length = zt := List.length_range' ..
      have HLR := hid hlr
      have hgl5 : g < w5.heap.size := HQ.out.1.glt
      have hE0 : 0 < kk + zt := by omega
      clear hlr
      refine wp_region_held_drew (S := (fun V => V.cell? ⟨g, 0, none⟩ = some (.pointer (some ⟨q, 0, none⟩)) ∧ V.cell? ⟨g, 1, none⟩ = some (.slice a1' kk c1'))) (by kernel_rfl) ⟨hc0, hc1'⟩ (fun hHeld => ?_)
      refine take_op 0 (some 60) (Value.pointer (some { block := g, off := 0 })) rfl rfl (by kernel_rfl) (by kernel_rfl) (by kernel_rfl) (fun _ _ _ h => by cases h.1) (by rfl) hHeld (fun W hW => ?_) ?_
      · obtain ⟨hW1, hW2⟩ := hW
        clear hHeld
        go_simp
      simp only [Act.put, List.setIfInBounds_toArray, List.set_cons_zero, List.set_cons_succ]
      refine take_op 1 (some 61) (Value.pointer (some { block := g, off := 0 })) rfl rfl (by kernel_rfl) (by kernel_rfl) (by kernel_rfl) (fun _ _ _ h => by cases h.1) (by rfl) hHeld (fun W hW => ?_) ?_
      · obtain ⟨hW1, hW2⟩ := hW
        clear hHeld
        go_simp
      simp only [Act.put, List.setIfInBounds_toArray, List.set_cons_zero, List.set_cons_succ]
      refine take_op 2 (some 62) (Value.pointer (some { block := g, off := 0 })) rfl rfl (by kernel_rfl) (by kernel_rfl) (by kernel_rfl) (fun _ _ _ h => by cases h.1) (by rfl) hHeld (fun W hW => ?_) ?_
      · obtain ⟨hW1, hW2⟩ := hW
        clear hHeld
        go_simp
      simp only [Act.put, List.setIfInBounds_toArray, List.set_cons_zero, List.set_cons_succ]
      refine take_op 3 (some 63) (Value.pointer (some { block := q, off := 0 })) rfl rfl (by kernel_rfl) (by kernel_rfl) (by kernel_rfl) (fun _ _ _ h => by cases h.1) (by rfl) hHeld (fun W hW => ?_) ?_
      · obtain ⟨hW1, hW2⟩ := hW
        clear hHeld
        go_simp
      simp only [Act.put, List.setIfInBounds_toArray, List.set_cons_zero, List.set_cons_succ]
      refine take_op 4 (some 64) (Value.pointer (some { block := g, off := 0 })) rfl rfl (by kernel_rfl) (by kernel_rfl) (by kernel_rfl) (fun _ _ _ h => by cases h.1) (by rfl) hHeld (fun W hW => ?_) ?_
      · obtain ⟨hW1, hW2⟩ := hW
        clear hHeld
        go_simp
      simp only [Act.put, List.setIfInBounds_toArray, List.set_cons_zero, List.set_cons_succ]
      refine take_op 5 (some 65) (Value.pointer (some { block := g, off := 0 })) rfl rfl (by kernel_rfl) (by kernel_rfl) (by kernel_rfl) (fun _ _ _ h => by cases h.1) (by rfl) hHeld (fun W hW => ?_) ?_
      · obtain ⟨hW1, hW2⟩ := hW
        clear hHeld
        go_simp
      simp only [Act.put, List.setIfInBounds_toArray, List.set_cons_zero, List.set_cons_succ]
      refine take_op 6 (some 66) (Value.pointer (some { block := g, off := 1 })) rfl rfl (by kernel_rfl) (by kernel_rfl) (by kernel_rfl) (fun _ _ _ h => by cases h.1) (by rfl) hHeld (fun W hW => ?_) ?_
      · obtain ⟨hW1, hW2⟩ := hW
        clear hHeld
        go_simp
      simp only [Act.put, List.setIfInBounds_toArray, List.set_cons_zero, List.set_cons_succ]
      refine take_op 7 (some 67) (Value.slice a1' kk c1') rfl rfl (by kernel_rfl) (by kernel_rfl) (by kernel_rfl) (fun _ _ _ h => by cases h.1) (by rfl) hHeld (fun W hW => ?_) ?_
      · obtain ⟨hW1, hW2⟩ := hW
        clear hHeld
        go_simp
      simp only [Act.put, List.setIfInBounds_toArray, List.set_cons_zero, List.set_cons_succ]
      refine take_op 8 (some 68) (Value.slice a5 zt c5) rfl rfl (by kernel_rfl) (by kernel_rfl) (by kernel_rfl) (fun _ _ _ h => by cases h.1) (by rfl) hHeld (fun W hW => ?_) ?_
      · obtain ⟨hW1, hW2⟩ := hW
        clear hHeld
        go_simp
      simp only [Act.put, List.setIfInBounds_toArray, List.set_cons_zero, List.set_cons_succ]
      refine take_op 11 (some 71) (Value.int IntKind.i64 ↑E) rfl rfl (by kernel_rfl) (by kernel_rfl) (by kernel_rfl) (fun _ _ _ h => by cases h.1) (by rfl) hHeld (fun W hW => ?_) ?_
      · obtain ⟨hW1, hW2⟩ := hW
        clear hHeld
        go_simp
      simp only [Act.put, List.setIfInBounds_toArray, List.set_cons_zero, List.set_cons_succ]
      refine take_op 12 (some 72) (Value.int IntKind.u32 ↑(nx last r)) rfl rfl (by kernel_rfl) (by kernel_rfl) (by kernel_rfl) (fun _ _ _ h => by cases h.1) (by rfl) hHeld (fun W hW => ?_) ?_
      · obtain ⟨hW1, hW2⟩ := hW
        clear hHeld
        go_simp
      simp only [Act.put, List.setIfInBounds_toArray, List.set_cons_zero, List.set_cons_succ]
      refine take_op 13 (some 73) (Value.int IntKind.i64 ↑bt) rfl rfl (by kernel_rfl) (by kernel_rfl) (by kernel_rfl) (fun _ _ _ h => by cases h.1) (by rfl) hHeld (fun W hW => ?_) ?_
      · obtain ⟨hW1, hW2⟩ := hW
        clear hHeld
        go_simp
      simp only [Act.put, List.setIfInBounds_toArray, List.set_cons_zero, List.set_cons_succ]
      have HBw5d : Hid (Below w5.heap.size w5 w5.drew) := Below.drew (Below.refl _ w5)
      obtain ⟨D5, hD5⟩ : ∃ D5, w5.drew = D5 := ⟨_, rfl⟩
      rw [hD5] at HBw5d
      have HBD5 := HBw5d
      have hsD : w5.heap.size = D5.heap.size := by rw [← hD5]; rfl
      refine wpAnyH_ready (rs := [9, 15]) (by kernel_rfl) (by simp) (AllReadyH.cons rfl (fun K hK => ?_) (AllReadyH.cons rfl (fun K hK => ?_) AllReadyH.nil))
      · have HK := hid hK
        have HHE := hid hHeld
        clear hK hHeld
        go_simp
        have hbV1 : Below D5.heap.size D5 (D5.alloc (.cells #[.slice a1' kk c1', .slice a5 zt c5] 33)) := (Below.refl _ D5).alloc (Nat.le_refl _) _
        have hnV1 := heap_alloc_new D5 (.cells #[.slice a1' kk c1', .slice a5 zt c5] 33)
        have HBV1 := hid (below_tr HBD5.out hbV1 HBD5.out.size)
        have hzV1 : D5.heap.size < (D5.alloc (.cells #[.slice a1' kk c1', .slice a5 zt c5] 33)).heap.size := by simp
        have hpV1 : Pair2 (D5.alloc (.cells #[.slice a1' kk c1', .slice a5 zt c5] 33)) D5.heap.size a1' a5 kk c1' zt c5 := hnV1
        generalize D5.alloc (.cells #[.slice a1' kk c1', .slice a5 zt c5] 33) = V1 at *
        refine HK.out.out _ _ ⟨(HBV1.out.cell (p := ⟨g, 0, none⟩) hgl5).trans hc0, (HBV1.out.cell (p := ⟨g, 1, none⟩) hgl5).trans hc1'⟩ (fun hHeld => ?_)
        clear HK HHE
        try simp only [Act.put, List.setIfInBounds_toArray, List.set_cons_zero, List.set_cons_succ]
        refine wpAnyH_ready (rs := [10, 15]) (by kernel_rfl) (by simp) (AllReadyH.cons rfl (fun K hK => ?_) (AllReadyH.cons rfl (fun K hK => ?_) AllReadyH.nil))
        · have HK := hid hK
          have HHE := hid hHeld
          clear hK hHeld
          go_simp
          refine (concat_any a1' a5 (iv segs) (iv (List.range' mm zt)) kk c1' zt c5 hpV1 (by rw [iv_len, HKL.out]) (by rw [iv_len, HLR.out]) (HS1.out.1.below HBV1.out).irow (HS1.out.2.below HBV1.out).irow hE0 (by omega) (by omega)).mono ?_
          rintro e V2 ⟨a6, c6, rfl, hsr6, hc6, hm6, hz6, hbV2⟩
          have HBV2 := hid (below_tr HBV1.out hbV2 HBV1.out.size)
          refine HK.out.out _ _ ⟨(HBV2.out.cell (p := ⟨g, 0, none⟩) hgl5).trans hc0, (HBV2.out.cell (p := ⟨g, 1, none⟩) hgl5).trans hc1'⟩ (fun hHeld => ?_)
          clear HK HHE
          try simp only [Act.put, List.setIfInBounds_toArray, List.set_cons_zero, List.set_cons_succ]
          refine take_op 14 (some 74) (.agg (lgCells q a6 (kk + zt) c6 E (nx last r) bt)) rfl rfl (by kernel_rfl) (by kernel_rfl) (by kernel_rfl) (fun _ _ _ h => by cases h.1) (by rfl) hHeld (fun W hW => ?_) ?_
          · obtain ⟨hW1, hW2⟩ := hW
            clear hHeld
            go_simp
            try rfl
          try simp only [Act.put, List.setIfInBounds_toArray, List.set_cons_zero, List.set_cons_succ]
          refine wpAnyH_ready (rs := [15]) (by kernel_rfl) (by simp) (AllReadyH.cons rfl (fun K hK => ?_) AllReadyH.nil)
          · have HK := hid hK
            have HHE := hid hHeld
            clear hK hHeld
            go_simp
            have hbV3 : Below V2.heap.size V2 (V2.alloc (.cells #[.pointer none, .slice none 0 0, .int .i64 0, .int .u32 0, .int .i64 0] 71)) := (Below.refl _ V2).alloc (Nat.le_refl _) _
            have hnV3 := heap_alloc_new V2 (.cells #[.pointer none, .slice none 0 0, .int .i64 0, .int .u32 0, .int .i64 0] 71)
            have HBV3 := hid (below_tr HBV2.out hbV3 HBV2.out.size)
            have hzV3 : V2.heap.size < (V2.alloc (.cells #[.pointer none, .slice none 0 0, .int .i64 0, .int .u32 0, .int .i64 0] 71)).heap.size := by simp
            have hsr7 := hsr6.below hbV3
            generalize V2.alloc (.cells #[.pointer none, .slice none 0 0, .int .i64 0, .int .u32 0, .int .i64 0] 71) = V3 at *
            refine HK.out.out _ _ ⟨(HBV3.out.cell (p := ⟨g, 0, none⟩) hgl5).trans hc0, (HBV3.out.cell (p := ⟨g, 1, none⟩) hgl5).trans hc1'⟩ (fun hHeld => ?_)
            clear HK HHE
            try simp only [Act.put, List.setIfInBounds_toArray, List.set_cons_zero, List.set_cons_succ]
            have HFI := grown_store (q := q) (l1 := segs) (l2 := List.range' mm zt) (E := E) (last := nx last r) (bt := bt) (w := w5) hnV3 hsr7 (by rw [HKL.out, HLR.out]; exact hc6) hm6 hz6 HBV3.out (Nat.le_trans HBV1.out.size (by have := hbV2.size; omega))
            rw [HKL.out, HLR.out] at HFI
            refine ready_store 16 none rfl rfl (by kernel_rfl) (by rfl) 71 _ _ rfl _ (store71z q a6 (kk + zt) c6 E (nx last r) bt hnV3) ?_ ?_
            · obtain ⟨_, _, _, _, _, _, _, hbb, _⟩ := HFI
              exact ⟨(hbb.cell (p := ⟨g, 0, none⟩) hgl5).trans hc0, (hbb.cell (p := ⟨g, 1, none⟩) hgl5).trans hc1'⟩
            try simp only [Act.put]
            exact wpAnyH_done (by kernel_rfl) ⟨rfl, _, _, _, _, rfl, HFI⟩ _
        · have HK := hid hK
          have HHE := hid hHeld
          clear hK hHeld
          go_simp
          have hbV2 : Below V1.heap.size V1 (V1.alloc (.cells #[.pointer none, .slice none 0 0, .int .i64 0, .int .u32 0, .int .i64 0] 71)) := (Below.refl _ V1).alloc (Nat.le_refl _) _
          have hnV2 := heap_alloc_new V1 (.cells #[.pointer none, .slice none 0 0, .int .i64 0, .int .u32 0, .int .i64 0] 71)
          have HBV2 := hid (below_tr HBV1.out hbV2 HBV1.out.size)
          have hzV2 : V1.heap.size < (V1.alloc (.cells #[.pointer none, .slice none 0 0, .int .i64 0, .int .u32 0, .int .i64 0] 71)).heap.size := by simp
          have hpV2 := hpV1.below hbV2
          generalize V1.alloc (.cells #[.pointer none, .slice none 0 0, .int .i64 0, .int .u32 0, .int .i64 0] 71) = V2 at *
          refine HK.out.out _ _ ⟨(HBV2.out.cell (p := ⟨g, 0, none⟩) hgl5).trans hc0, (HBV2.out.cell (p := ⟨g, 1, none⟩) hgl5).trans hc1'⟩ (fun hHeld => ?_)
          clear HK HHE
          try simp only [Act.put, List.setIfInBounds_toArray, List.set_cons_zero, List.set_cons_succ]
          refine wpAnyH_ready (rs := [10]) (by kernel_rfl) (by simp) (AllReadyH.cons rfl (fun K hK => ?_) AllReadyH.nil)
          · have HK := hid hK
            have HHE := hid hHeld
            clear hK hHeld
            go_simp
            refine (concat_any a1' a5 (iv segs) (iv (List.range' mm zt)) kk c1' zt c5 hpV2 (by rw [iv_len, HKL.out]) (by rw [iv_len, HLR.out]) (HS1.out.1.below HBV2.out).irow (HS1.out.2.below HBV2.out).irow hE0 (by omega) (by omega)).mono ?_
            rintro e V3 ⟨a6, c6, rfl, hsr6, hc6, hm6, hz6, hbV3⟩
            have HBV3 := hid (below_tr HBV2.out hbV3 HBV2.out.size)
            refine HK.out.out _ _ ⟨(HBV3.out.cell (p := ⟨g, 0, none⟩) hgl5).trans hc0, (HBV3.out.cell (p := ⟨g, 1, none⟩) hgl5).trans hc1'⟩ (fun hHeld => ?_)
            clear HK HHE
            try simp only [Act.put, List.setIfInBounds_toArray, List.set_cons_zero, List.set_cons_succ]
            refine take_op 14 (some 74) (.agg (lgCells q a6 (kk + zt) c6 E (nx last r) bt)) rfl rfl (by kernel_rfl) (by kernel_rfl) (by kernel_rfl) (fun _ _ _ h => by cases h.1) (by rfl) hHeld (fun W hW => ?_) ?_
            · obtain ⟨hW1, hW2⟩ := hW
              clear hHeld
              go_simp
              try rfl
            try simp only [Act.put, List.setIfInBounds_toArray, List.set_cons_zero, List.set_cons_succ]
            have HFI := grown_store (q := q) (l1 := segs) (l2 := List.range' mm zt) (E := E) (last := nx last r) (bt := bt) (w := w5) ((hbV3.block _ hzV2).trans hnV2) hsr6 (by rw [HKL.out, HLR.out]; exact hc6) hm6 hz6 HBV3.out HBV1.out.size
            rw [HKL.out, HLR.out] at HFI
            refine ready_store 16 none rfl rfl (by kernel_rfl) (by rfl) 71 _ _ rfl _ (store71z q a6 (kk + zt) c6 E (nx last r) bt ((hbV3.block _ hzV2).trans hnV2)) ?_ ?_
            · obtain ⟨_, _, _, _, _, _, _, hbb, _⟩ := HFI
              exact ⟨(hbb.cell (p := ⟨g, 0, none⟩) hgl5).trans hc0, (hbb.cell (p := ⟨g, 1, none⟩) hgl5).trans hc1'⟩
            try simp only [Act.put]
            exact wpAnyH_done (by kernel_rfl) ⟨rfl, _, _, _, _, rfl, HFI⟩ _
      · have HK := hid hK
        have HHE := hid hHeld
        clear hK hHeld
        go_simp
        have hbV1 : Below D5.heap.size D5 (D5.alloc (.cells #[.pointer none, .slice none 0 0, .int .i64 0, .int .u32 0, .int .i64 0] 71)) := (Below.refl _ D5).alloc (Nat.le_refl _) _
        have hnV1 := heap_alloc_new D5 (.cells #[.pointer none, .slice none 0 0, .int .i64 0, .int .u32 0, .int .i64 0] 71)
        have HBV1 := hid (below_tr HBD5.out hbV1 HBD5.out.size)
        have hzV1 : D5.heap.size < (D5.alloc (.cells #[.pointer none, .slice none 0 0, .int .i64 0, .int .u32 0, .int .i64 0] 71)).heap.size := by simp
        generalize D5.alloc (.cells #[.pointer none, .slice none 0 0, .int .i64 0, .int .u32 0, .int .i64 0] 71) = V1 at *
        refine HK.out.out _ _ ⟨(HBV1.out.cell (p := ⟨g, 0, none⟩) hgl5).trans hc0, (HBV1.out.cell (p := ⟨g, 1, none⟩) hgl5).trans hc1'⟩ (fun hHeld => ?_)
        clear HK HHE
        try simp only [Act.put, List.setIfInBounds_toArray, List.set_cons_zero, List.set_cons_succ]
        refine wpAnyH_ready (rs := [9]) (by kernel_rfl) (by simp) (AllReadyH.cons rfl (fun K hK => ?_) AllReadyH.nil)
        · have HK := hid hK
          have HHE := hid hHeld
          clear hK hHeld
          go_simp
          have hbV2 : Below V1.heap.size V1 (V1.alloc (.cells #[.slice a1' kk c1', .slice a5 zt c5] 33)) := (Below.refl _ V1).alloc (Nat.le_refl _) _
          have hnV2 := heap_alloc_new V1 (.cells #[.slice a1' kk c1', .slice a5 zt c5] 33)
          have HBV2 := hid (below_tr HBV1.out hbV2 HBV1.out.size)
          have hzV2 : V1.heap.size < (V1.alloc (.cells #[.slice a1' kk c1', .slice a5 zt c5] 33)).heap.size := by simp
          have hpV2 : Pair2 (V1.alloc (.cells #[.slice a1' kk c1', .slice a5 zt c5] 33)) V1.heap.size a1' a5 kk c1' zt c5 := hnV2
          generalize V1.alloc (.cells #[.slice a1' kk c1', .slice a5 zt c5] 33) = V2 at *
          refine HK.out.out _ _ ⟨(HBV2.out.cell (p := ⟨g, 0, none⟩) hgl5).trans hc0, (HBV2.out.cell (p := ⟨g, 1, none⟩) hgl5).trans hc1'⟩ (fun hHeld => ?_)
          clear HK HHE
          try simp only [Act.put, List.setIfInBounds_toArray, List.set_cons_zero, List.set_cons_succ]
          refine wpAnyH_ready (rs := [10]) (by kernel_rfl) (by simp) (AllReadyH.cons rfl (fun K hK => ?_) AllReadyH.nil)
          · have HK := hid hK
            have HHE := hid hHeld
            clear hK hHeld
            go_simp
            refine (concat_any a1' a5 (iv segs) (iv (List.range' mm zt)) kk c1' zt c5 hpV2 (by rw [iv_len, HKL.out]) (by rw [iv_len, HLR.out]) (HS1.out.1.below HBV2.out).irow (HS1.out.2.below HBV2.out).irow hE0 (by omega) (by omega)).mono ?_
            rintro e V3 ⟨a6, c6, rfl, hsr6, hc6, hm6, hz6, hbV3⟩
            have HBV3 := hid (below_tr HBV2.out hbV3 HBV2.out.size)
            refine HK.out.out _ _ ⟨(HBV3.out.cell (p := ⟨g, 0, none⟩) hgl5).trans hc0, (HBV3.out.cell (p := ⟨g, 1, none⟩) hgl5).trans hc1'⟩ (fun hHeld => ?_)
            clear HK HHE
            try simp only [Act.put, List.setIfInBounds_toArray, List.set_cons_zero, List.set_cons_succ]
            refine take_op 14 (some 74) (.agg (lgCells q a6 (kk + zt) c6 E (nx last r) bt)) rfl rfl (by kernel_rfl) (by kernel_rfl) (by kernel_rfl) (fun _ _ _ h => by cases h.1) (by rfl) hHeld (fun W hW => ?_) ?_
            · obtain ⟨hW1, hW2⟩ := hW
              clear hHeld
              go_simp
              try rfl
            try simp only [Act.put, List.setIfInBounds_toArray, List.set_cons_zero, List.set_cons_succ]
            have HFI := grown_store (q := q) (l1 := segs) (l2 := List.range' mm zt) (E := E) (last := nx last r) (bt := bt) (w := w5) ((hbV3.block _ (by omega)).trans ((hbV2.block _ hzV1).trans hnV1)) hsr6 (by rw [HKL.out, HLR.out]; exact hc6) hm6 hz6 HBV3.out (by omega)
            rw [HKL.out, HLR.out] at HFI
            refine ready_store 16 none rfl rfl (by kernel_rfl) (by rfl) 71 _ _ rfl _ (store71z q a6 (kk + zt) c6 E (nx last r) bt ((hbV3.block _ (by omega)).trans ((hbV2.block _ hzV1).trans hnV1))) ?_ ?_
            · obtain ⟨_, _, _, _, _, _, _, hbb, _⟩ := HFI
              exact ⟨(hbb.cell (p := ⟨g, 0, none⟩) hgl5).trans hc0, (hbb.cell (p := ⟨g, 1, none⟩) hgl5).trans hc1'⟩
            try simp only [Act.put]
            exact wpAnyH_done (by kernel_rfl) ⟨rfl, _, _, _, _, rfl, HFI⟩ _
    case rest =>
      rintro e a' w6 ⟨rfl, v69, v70, v74, G, rfl, hG⟩
      obtain ⟨a6, c6, hG1, hG2, hG3, hG4, hG5, hG6, hG7⟩ := hG
      obtain ⟨hL5, hR5, hsp5, hb5⟩ := HQ.out
      have hL6 := hL5.below hG6
      have c2 := hL6.c2
      have hlr : (List.range' mm zt).length = zt := List.length_range' ..
      have hgl6 : g < w6.heap.size := hL6.glt
      have hD6 : DiskAt w6 q p d := ((H.out.disk.below HB4.out).but hb5 (fun e => H.out.space.tag.ne H.out.disk.tag.1 (by decide) e.symm) (fun e => H.out.space.tag.ne H.out.disk.tag.2 (by decide) e.symm)).below hG6
      have hsp6 := hsp5.below hG6
      have hR6 := hR5.below hG6
      have hGlt : G < w6.heap.size := (Array.getElem?_eq_some_iff.1 hG1).1
      have h0lt : w.heap.size ≤ w5.heap.size := Nat.le_trans HB4.out.size hb5.size
      have hlow : ∀ s ∈ segs ++ List.range' mm zt, s < mm + zt := fun s hs => by
        rcases List.mem_append.1 hs with hs | hs
        · have := H.out.low s hs; omega
        · have := List.mem_range'.1 hs; obtain ⟨i, hi, rfl⟩ := this; omega
      have hmz : mm + zt ≤ k := by omega
      have hEfit : E ≤ 8 * (kk + zt) := by omega
      have hLG : LogAt w6 G q (segs ++ List.range' mm zt) E (nx last r) bt := ⟨⟨a6, c6, by rw [List.length_append]; exact hG1, by rw [iv_app]; exact hG2, by rw [List.length_append]; exact hG3, hG4, hG5⟩, fun s hs => by have := hlow s hs; omega, by rw [List.length_append, HKL.out, hlr]; omega, Crc.nx_lt _ _, by omega, by omega⟩
      have hHas : Has d (segs ++ List.range' mm zt) := fun s hs => by
        have := hlow s hs
        have h3 := H.out.room
        omega
      have hgF : w.heap.size ≤ gF := owns_block HMI4.out.2.2 gF rfl
      have hdl := H.out.disk.lt
      have HW := hid (lwrite_dead hLG hD6 H.out.dead H.out.fuse hHas (by rw [List.length_append, HKL.out, hlr]; exact hEfit) gF 0 (l + 16) cF (mk last bt r) hR6 HMI4.out.1 HMI4.out.row.1 (by omega) n HNE.out (by omega) ⟨by omega, by omega⟩ (by omega))
      have hsg6 := HS1.out.2.below hG6
      have HF := hid (And.intro hL6 (And.intro hsp6 hsg6))
      have HX := hid (And.intro hlow (And.intro hHas (And.intro hmz hEfit)))
      have HBW : Hid (But (fun j => j = x) w w6) := ((below_but (fun j => j = x) HB4.out).trans hb5 (fun k e => .inl e)).trans (below_but (fun _ => False) hG6) (fun _ e => e.elim)
      have HRL := hid hlr
      have HDT := hid hD6.tag
      clear hL5 hR5 hsp5 hb5 hL6 hD6 hsp6 hR6 hLG hHas hlow hG1 hG2 hG6 hsg6
      go_wp2_with fail
      refine HW.out.mono ?_
      rintro e w7 ⟨rfl, hD7, hb7⟩
      obtain ⟨hL6, hsp6, hsg6⟩ := HF.out
      have hnq : ∀ {j t : Nat}, Tag w6 j t → t ≠ 66 → t ≠ 86 → ¬ (j = q ∨ j = p) := fun {j t} ht h1 h2 e => by
        have h9 := HDT.out
        rcases e with rfl | rfl
        · exact ht.ne h9.1 h1 rfl
        · exact ht.ne h9.2 h2 rfl
      have hni6 : NoInts (fun j => j = q ∨ j = p) w6 := noInts_of (fun j e => by rcases e with rfl | rfl; exact ⟨66, HDT.out.1, by decide⟩; exact ⟨86, HDT.out.2, by decide⟩)
      have hsp7 := hsp6.but hb7 (hnq hsp6.tag (by decide) (by decide))
      have hsg7 := hsg6.but hb7 hni6
      have HGV := hid (give_segs hsp7 a5 (List.range' mm zt) zt c5 HRL.out hsg7 (fun s hs => by obtain ⟨i, hi, rfl⟩ := List.mem_range'.1 hs; have := HX.out.2.2.1; omega) (by omega))
      have HD7 := hid hD7
      have hqx : ∀ j, (j = q ∨ j = p) → j ≠ x := fun j e e2 => by
        rcases e with e | e
        · exact hsp7.tag.ne hD7.tag.1 (by decide) (e2.symm.trans e)
        · exact hsp7.tag.ne hD7.tag.2 (by decide) (e2.symm.trans e)
      have HB7 : Hid (But (fun j => j = q ∨ j = p ∨ j = x) w w7) := But.trans (T := fun j => j = q ∨ j = p) (HBW.out.mono (T := fun j => j = q ∨ j = p ∨ j = x) (fun j e => .inl (.inr (.inr e)))) hb7 (fun j e => .inl (by rcases e with e | e; exact .inl e; exact .inr (.inl e)))
      have HQX := hid hqx
      clear hb7 hnq hni6 hsp7 hsg7 hsp6 hsg6 hL6 hD7 hqx
      go_wp2_with fail
      refine HGV.out.mono ?_
      rintro e w8 ⟨rfl, _, hb8⟩
      have HB8 := hid (HB7.out.trans hb8 (fun j e => .inl (.inr (.inr e))))
      have HD8 := hid (HD7.out.but hb8 (fun e => HQX.out q (.inl rfl) e) (fun e => HQX.out p (.inr rfl) e))
      clear hb8
      go_wp2_with fail
      go_ret
      exact ⟨rfl, HD8.out, HB8.out⟩
  · exact absurd HRO.out (by rw [HEQ.out.1, HKL.out]; exact hfull)
end Go.Proofs.Yteohjfhflodklaa
