/- What the program's Best answers on a disk that is alive and has both slots. -/
import Derived.Test.YtmfmhlhpleahpaaSupI
namespace Go.Proofs.Ytmfmhlhpleahpaa
open Go.RowKit Pen
open Crc (four nx)
def best : Option Sp → Option Sp → Option Sp
  | none, b => b
  | some a, none => some a
  | some a, some b => if a.number < b.number then some b else some a
def Bested (base : Nat) (e : Ending) (w' : World) : Option Sp → Prop
  | none => e = .returned (.tuple #[.agg #[.int .i64 0, .int .i64 0, .slice none 0 0, .int .i64 0, .int .u32 0, .slice none 0 0, .int .i64 0, .int .u32 0], .int .i64 13])
  | some s => ∃ aj nj cj ac nc cc, e = .returned (.tuple #[.agg #[.int .i64 s.number, .int .i64 s.boot, .slice aj nj cj, .int .i64 s.j.len, .int .u32 (s.j.last : Int), .slice ac nc cc, .int .i64 s.c.len, .int .u32 (s.c.last : Int)], .int .i64 0]) ∧ s.j.segs.length = nj ∧ s.c.segs.length = nc ∧ IRow w' aj s.j.segs ∧ IRow w' ac s.c.segs ∧ (∀ v, aj = some v → base ≤ v.block) ∧ (∀ v, ac = some v → base ≤ v.block)
theorem neq_nil (w : World) (ad : Addr) : (binOp .eql 45 (.pointer (some ad)) (.pointer none)).run Try.prog w = .ok (.bool false) w := by kernel_rfl
set_option maxRecDepth 10000 in
set_option maxHeartbeats 4000000 in
theorem bestS_ok {w : World} {q p : Nat} {d : Dk} (h : DiskAt w q p d) (hdead : d.dead = false) (hn : 8 ≤ d.secs.length) (k : Int) :
    Calls Try.prog 21 #[.pointer (some ⟨q, 0, none⟩), .int .i64 k] w fun e w' => Bested w.heap.size e w' (best (parse (d.slot 0) k) (parse (d.slot 1) k)) ∧ Below w.heap.size w w' := by
  obtain ⟨w1, hw1⟩ : ∃ w1, w1 = w.alloc (.cells #[.int .i64 0, .int .i64 0, .slice none 0 0, .int .i64 0, .int .u32 0, .slice none 0 0, .int .i64 0, .int .u32 0] 32) := ⟨_, rfl⟩
  have hb1 : Below w.heap.size w w1 := by rw [hw1]; exact (Below.refl _ _).alloc (Nat.le_refl _) _
  have hy1 : w1.heap[w.heap.size]? = some (.cells #[.int .i64 0, .int .i64 0, .slice none 0 0, .int .i64 0, .int .u32 0, .slice none 0 0, .int .i64 0, .int .u32 0] 32 (0, 0)) := by rw [hw1]; exact heap_alloc_new _ _
  have hs1 : w1.heap.size = w.heap.size + 1 := by rw [hw1]; simp
  have HW1 := hid hw1
  have HB1 := hid hb1
  have HY1 := hid hy1
  have HS1 := hid hs1
  have HD1 := hid (h.below hb1)
  have HDE := hid hdead
  have HN := hid hn
  have hkd := dead_any HD1.out
  rw [hdead] at hkd
  have HKD := hid hkd
  have hnil := neq_nil
  have HK0 := hid (readS_ok HD1.out hdead 0 (by decide) (by omega) k)
  clear hw1 hb1 hy1 hs1 h hdead hn hkd
  go_enter Try.func21, Try.ntmps21
  go_wp2_with fail
  rw [← HW1.out]
  clear HW1
  refine HKD.out.mono ?_
  rintro e w2 ⟨rfl, rfl⟩
  clear HKD
  go_wp2_with fail
  refine HK0.out.mono ?_
  rintro e w3 ⟨hp0, hb3⟩
  generalize hPA : parse (d.slot 0) k = PA at *
  clear HK0
  cases PA with
  | none =>
    obtain rfl : e = _ := hp0
    obtain ⟨vA, hvA⟩ : ∃ v, v = w3.alloc (.cells #[.int .i64 0, .int .i64 0, .slice none 0 0, .int .i64 0, .int .u32 0, .slice none 0 0, .int .i64 0, .int .u32 0] 32) := ⟨_, rfl⟩
    have hbvA : Below w3.heap.size w3 vA := by rw [hvA]; exact (Below.refl _ _).alloc (Nat.le_refl _) _
    have HXA : Hid (vA.heap[w3.heap.size]? = some (.cells #[.int .i64 0, .int .i64 0, .slice none 0 0, .int .i64 0, .int .u32 0, .slice none 0 0, .int .i64 0, .int .u32 0] 32 (0, 0))) := by rw [hvA]; exact heap_alloc_new _ _
    have HVA := hid hvA
    have HBA := hid (hb3.trans (hbvA.mono hb3.size))
    have HLOA : Hid (w.heap.size < w2.heap.size) := by have := HS1.out; show _ < _; omega
    have HDA := hid (HD1.out.below HBA.out)
    have HKB := hid (readS_ok HDA.out HDE.out 1 (by decide) (by have := HN.out; omega) k)
    have HPA := hid hPA
    clear hb3 hvA hbvA hPA
    go_wp2_with fail
    rw [← HVA.out]
    clear HVA
    refine HKB.out.mono ?_
    rintro e w5 ⟨hp1, hb5⟩
    have hxA5 := (hb5.block _ (Array.getElem?_eq_some_iff.1 HXA.out).1).trans HXA.out
    have HBA5 := hid (HBA.out.trans (hb5.mono HBA.out.size))
    generalize hPB : parse (d.slot 1) k = PB at *
    have HPB := hid hPB
    clear HKB
    cases PB with
    | none =>
      obtain rfl : e = _ := hp1
      obtain ⟨vB, hvB⟩ : ∃ v, v = w5.alloc (.cells #[.int .i64 0, .int .i64 0, .slice none 0 0, .int .i64 0, .int .u32 0, .slice none 0 0, .int .i64 0, .int .u32 0] 32) := ⟨_, rfl⟩
      have hbvB : Below w5.heap.size w5 vB := by rw [hvB]; exact (Below.refl _ _).alloc (Nat.le_refl _) _
      have HXB : Hid (vB.heap[w5.heap.size]? = some (.cells #[.int .i64 0, .int .i64 0, .slice none 0 0, .int .i64 0, .int .u32 0, .slice none 0 0, .int .i64 0, .int .u32 0] 32 (0, 0))) := by rw [hvB]; exact heap_alloc_new _ _
      have HVB := hid hvB
      have HBW := hid (HBA5.out.trans (hbvB.mono HBA5.out.size))
      have hxAB := (hbvB.block _ (Array.getElem?_eq_some_iff.1 hxA5).1).trans hxA5
      obtain ⟨d0, d1, d2, d3, d4, d5, d6, d7⟩ := cells8 hxAB
      obtain ⟨f0, f1, f2, f3, f4, f5, f6, f7⟩ := cells8 HXB.out
      rw [HVB.out] at d0 d1 d2 d3 d4 d5 d6 d7 f0 f1 f2 f3 f4 f5 f6 f7
      rw [HVB.out] at HBW
      generalize w3.heap.size = xa at *
      generalize w5.heap.size = xb at *
      clear hb5 hxA5 hvB hbvB hxAB hPB HXB
      have HBE : Hid (best none none = none) := rfl
      have hyE := (HBW.out.block w.heap.size (by have := HS1.out; omega)).trans HY1.out
      have HSTE := hid (store_zero hyE)
      have HYE := hid hyE
      clear hyE
      have tok : True := trivial
      go_wp2_with (have _t := tok; refine step_store 32 rfl _ _ rfl _ HSTE.out ?_; clear tok)
      refine bodyPost_ret (ret_pair Try.results21 _ _ w.heap.size _ rfl (setRow_heap _ _ _ _ _ _ HYE.out) rfl) rfl ⟨?_, below_setRow (HB1.out.trans (HBW.out.mono HB1.out.size)) (Nat.le_refl _) _⟩
      rw [HPA.out, HPB.out, HBE.out]
      rfl
    | some SB =>
      obtain ⟨ajB, njB, cjB, acB, ncB, ccB, rfl, p1B, p2B, p3B, p4B, p5B, p6B⟩ := hp1
      obtain ⟨nbB, btB, ⟨sjB, ljB, kjB⟩, ⟨scB, lcB, kcB⟩⟩ := SB
      dsimp only at p1B p2B p3B p4B
      obtain ⟨vB, hvB⟩ : ∃ v, v = w5.alloc (.cells #[.int .i64 nbB, .int .i64 btB, .slice ajB njB cjB, .int .i64 ljB, .int .u32 (kjB : Int), .slice acB ncB ccB, .int .i64 lcB, .int .u32 (kcB : Int)] 32) := ⟨_, rfl⟩
      have hbvB : Below w5.heap.size w5 vB := by rw [hvB]; exact (Below.refl _ _).alloc (Nat.le_refl _) _
      have HXB : Hid (vB.heap[w5.heap.size]? = some (.cells #[.int .i64 nbB, .int .i64 btB, .slice ajB njB cjB, .int .i64 ljB, .int .u32 (kjB : Int), .slice acB ncB ccB, .int .i64 lcB, .int .u32 (kcB : Int)] 32 (0, 0))) := by rw [hvB]; exact heap_alloc_new _ _
      have HVB := hid hvB
      have HJB := hid (p3B.below hbvB)
      have HCB := hid (p4B.below hbvB)
      have HFFB := hid (And.intro p1B (And.intro p2B (And.intro p5B p6B)))
      have HBW := hid (HBA5.out.trans (hbvB.mono HBA5.out.size))
      have hxAB := (hbvB.block _ (Array.getElem?_eq_some_iff.1 hxA5).1).trans hxA5
      have HJFB := HJB
      have HCFB := HCB
      have HLOB : Hid (w.heap.size < vA.heap.size) := by have := HS1.out; have := HBA.out.size; show _ < _; omega
      obtain ⟨d0, d1, d2, d3, d4, d5, d6, d7⟩ := cells8 hxAB
      obtain ⟨f0, f1, f2, f3, f4, f5, f6, f7⟩ := cells8 HXB.out
      rw [HVB.out] at d0 d1 d2 d3 d4 d5 d6 d7 f0 f1 f2 f3 f4 f5 f6 f7
      rw [HVB.out] at HBW HJFB HCFB
      generalize w3.heap.size = xa at *
      generalize w5.heap.size = xb at *
      clear hb5 hxA5 hvB hbvB hxAB hPB HXB p1B p2B p3B p4B p5B p6B
      have HBE : Hid (best none (some ⟨nbB, btB, ⟨sjB, ljB, kjB⟩, ⟨scB, lcB, kcB⟩⟩) = some ⟨nbB, btB, ⟨sjB, ljB, kjB⟩, ⟨scB, lcB, kcB⟩⟩) := rfl
      have hyE := (HBW.out.block w.heap.size (by have := HS1.out; omega)).trans HY1.out
      have HSTE := hid (store_slot (nb := nbB) (bt := btB) (lj := ljB) (lc := lcB) (aj := ajB) (ac := acB) (nj := njB) (cj := cjB) (nc := ncB) (cc := ccB) (kj := kjB) (kc := kcB) hyE)
      have HYE := hid hyE
      clear hyE
      have tok : True := trivial
      go_wp2_with (have _t := tok; refine step_store 32 rfl _ _ rfl _ HSTE.out ?_; clear tok)
      refine bodyPost_ret (ret_pair Try.results21 _ _ w.heap.size _ rfl (setRow_heap _ _ _ _ _ _ HYE.out) rfl) rfl ⟨?_, below_setRow (HB1.out.trans (HBW.out.mono HB1.out.size)) (Nat.le_refl _) _⟩
      rw [HPA.out, HPB.out, HBE.out]
      exact ⟨ajB, njB, cjB, acB, ncB, ccB, rfl, HFFB.out.1, HFFB.out.2.1, HJFB.out.setRow (fun v hv => by have := HFFB.out.2.2.1 v hv; have := HLOB.out; omega), HCFB.out.setRow (fun v hv => by have := HFFB.out.2.2.2 v hv; have := HLOB.out; omega), fun v hv => by have := HFFB.out.2.2.1 v hv; have := HLOB.out; omega, fun v hv => by have := HFFB.out.2.2.2 v hv; have := HLOB.out; omega⟩
  | some SA =>
    obtain ⟨ajA, njA, cjA, acA, ncA, ccA, rfl, p1A, p2A, p3A, p4A, p5A, p6A⟩ := hp0
    obtain ⟨nbA, btA, ⟨sjA, ljA, kjA⟩, ⟨scA, lcA, kcA⟩⟩ := SA
    dsimp only at p1A p2A p3A p4A
    obtain ⟨vA, hvA⟩ : ∃ v, v = w3.alloc (.cells #[.int .i64 nbA, .int .i64 btA, .slice ajA njA cjA, .int .i64 ljA, .int .u32 (kjA : Int), .slice acA ncA ccA, .int .i64 lcA, .int .u32 (kcA : Int)] 32) := ⟨_, rfl⟩
    have hbvA : Below w3.heap.size w3 vA := by rw [hvA]; exact (Below.refl _ _).alloc (Nat.le_refl _) _
    have HXA : Hid (vA.heap[w3.heap.size]? = some (.cells #[.int .i64 nbA, .int .i64 btA, .slice ajA njA cjA, .int .i64 ljA, .int .u32 (kjA : Int), .slice acA ncA ccA, .int .i64 lcA, .int .u32 (kcA : Int)] 32 (0, 0))) := by rw [hvA]; exact heap_alloc_new _ _
    have HVA := hid hvA
    have HJA := hid (p3A.below hbvA)
    have HCA := hid (p4A.below hbvA)
    have HFFA := hid (And.intro p1A (And.intro p2A (And.intro p5A p6A)))
    have HBA := hid (hb3.trans (hbvA.mono hb3.size))
    have HLOA : Hid (w.heap.size < w2.heap.size) := by have := HS1.out; show _ < _; omega
    have HDA := hid (HD1.out.below HBA.out)
    have HKB := hid (readS_ok HDA.out HDE.out 1 (by decide) (by have := HN.out; omega) k)
    have HPA := hid hPA
    clear hb3 hvA hbvA hPA p1A p2A p3A p4A p5A p6A
    go_wp2_with fail
    rw [← HVA.out]
    clear HVA
    refine HKB.out.mono ?_
    rintro e w5 ⟨hp1, hb5⟩
    have hxA5 := (hb5.block _ (Array.getElem?_eq_some_iff.1 HXA.out).1).trans HXA.out
    have HBA5 := hid (HBA.out.trans (hb5.mono HBA.out.size))
    generalize hPB : parse (d.slot 1) k = PB at *
    have HPB := hid hPB
    clear HKB
    cases PB with
    | none =>
      obtain rfl : e = _ := hp1
      obtain ⟨vB, hvB⟩ : ∃ v, v = w5.alloc (.cells #[.int .i64 0, .int .i64 0, .slice none 0 0, .int .i64 0, .int .u32 0, .slice none 0 0, .int .i64 0, .int .u32 0] 32) := ⟨_, rfl⟩
      have hbvB : Below w5.heap.size w5 vB := by rw [hvB]; exact (Below.refl _ _).alloc (Nat.le_refl _) _
      have HXB : Hid (vB.heap[w5.heap.size]? = some (.cells #[.int .i64 0, .int .i64 0, .slice none 0 0, .int .i64 0, .int .u32 0, .slice none 0 0, .int .i64 0, .int .u32 0] 32 (0, 0))) := by rw [hvB]; exact heap_alloc_new _ _
      have HVB := hid hvB
      have HBW := hid (HBA5.out.trans (hbvB.mono HBA5.out.size))
      have hxAB := (hbvB.block _ (Array.getElem?_eq_some_iff.1 hxA5).1).trans hxA5
      have HJFA := hid ((HJA.out.below hb5).below hbvB)
      have HCFA := hid ((HCA.out.below hb5).below hbvB)
      obtain ⟨d0, d1, d2, d3, d4, d5, d6, d7⟩ := cells8 hxAB
      obtain ⟨f0, f1, f2, f3, f4, f5, f6, f7⟩ := cells8 HXB.out
      rw [HVB.out] at d0 d1 d2 d3 d4 d5 d6 d7 f0 f1 f2 f3 f4 f5 f6 f7
      rw [HVB.out] at HBW HJFA HCFA
      generalize w3.heap.size = xa at *
      generalize w5.heap.size = xb at *
      clear hb5 hxA5 hvB hbvB hxAB hPB HXB
      have HBE : Hid (best (some ⟨nbA, btA, ⟨sjA, ljA, kjA⟩, ⟨scA, lcA, kcA⟩⟩) none = some ⟨nbA, btA, ⟨sjA, ljA, kjA⟩, ⟨scA, lcA, kcA⟩⟩) := rfl
      have hyE := (HBW.out.block w.heap.size (by have := HS1.out; omega)).trans HY1.out
      have HSTE := hid (store_slot (nb := nbA) (bt := btA) (lj := ljA) (lc := lcA) (aj := ajA) (ac := acA) (nj := njA) (cj := cjA) (nc := ncA) (cc := ccA) (kj := kjA) (kc := kcA) hyE)
      have HYE := hid hyE
      clear hyE
      have tok : True := trivial
      go_wp2_with (have _t := tok; refine step_store 32 rfl _ _ rfl _ HSTE.out ?_; clear tok)
      refine bodyPost_ret (ret_pair Try.results21 _ _ w.heap.size _ rfl (setRow_heap _ _ _ _ _ _ HYE.out) rfl) rfl ⟨?_, below_setRow (HB1.out.trans (HBW.out.mono HB1.out.size)) (Nat.le_refl _) _⟩
      rw [HPA.out, HPB.out, HBE.out]
      exact ⟨ajA, njA, cjA, acA, ncA, ccA, rfl, HFFA.out.1, HFFA.out.2.1, HJFA.out.setRow (fun v hv => by have := HFFA.out.2.2.1 v hv; have := HLOA.out; omega), HCFA.out.setRow (fun v hv => by have := HFFA.out.2.2.2 v hv; have := HLOA.out; omega), fun v hv => by have := HFFA.out.2.2.1 v hv; have := HLOA.out; omega, fun v hv => by have := HFFA.out.2.2.2 v hv; have := HLOA.out; omega⟩
    | some SB =>
      obtain ⟨ajB, njB, cjB, acB, ncB, ccB, rfl, p1B, p2B, p3B, p4B, p5B, p6B⟩ := hp1
      obtain ⟨nbB, btB, ⟨sjB, ljB, kjB⟩, ⟨scB, lcB, kcB⟩⟩ := SB
      dsimp only at p1B p2B p3B p4B
      obtain ⟨vB, hvB⟩ : ∃ v, v = w5.alloc (.cells #[.int .i64 nbB, .int .i64 btB, .slice ajB njB cjB, .int .i64 ljB, .int .u32 (kjB : Int), .slice acB ncB ccB, .int .i64 lcB, .int .u32 (kcB : Int)] 32) := ⟨_, rfl⟩
      have hbvB : Below w5.heap.size w5 vB := by rw [hvB]; exact (Below.refl _ _).alloc (Nat.le_refl _) _
      have HXB : Hid (vB.heap[w5.heap.size]? = some (.cells #[.int .i64 nbB, .int .i64 btB, .slice ajB njB cjB, .int .i64 ljB, .int .u32 (kjB : Int), .slice acB ncB ccB, .int .i64 lcB, .int .u32 (kcB : Int)] 32 (0, 0))) := by rw [hvB]; exact heap_alloc_new _ _
      have HVB := hid hvB
      have HJB := hid (p3B.below hbvB)
      have HCB := hid (p4B.below hbvB)
      have HFFB := hid (And.intro p1B (And.intro p2B (And.intro p5B p6B)))
      have HBW := hid (HBA5.out.trans (hbvB.mono HBA5.out.size))
      have hxAB := (hbvB.block _ (Array.getElem?_eq_some_iff.1 hxA5).1).trans hxA5
      have HJFA := hid ((HJA.out.below hb5).below hbvB)
      have HCFA := hid ((HCA.out.below hb5).below hbvB)
      have HJFB := HJB
      have HCFB := HCB
      have HLOB : Hid (w.heap.size < vA.heap.size) := by have := HS1.out; have := HBA.out.size; show _ < _; omega
      obtain ⟨d0, d1, d2, d3, d4, d5, d6, d7⟩ := cells8 hxAB
      obtain ⟨f0, f1, f2, f3, f4, f5, f6, f7⟩ := cells8 HXB.out
      rw [HVB.out] at d0 d1 d2 d3 d4 d5 d6 d7 f0 f1 f2 f3 f4 f5 f6 f7
      rw [HVB.out] at HBW HJFA HCFA HJFB HCFB
      generalize w3.heap.size = xa at *
      generalize w5.heap.size = xb at *
      clear hb5 hxA5 hvB hbvB hxAB hPB HXB p1B p2B p3B p4B p5B p6B
      by_cases hlt : nbA < nbB
      · have HBE : Hid (best (some ⟨nbA, btA, ⟨sjA, ljA, kjA⟩, ⟨scA, lcA, kcA⟩⟩) (some ⟨nbB, btB, ⟨sjB, ljB, kjB⟩, ⟨scB, lcB, kcB⟩⟩) = some ⟨nbB, btB, ⟨sjB, ljB, kjB⟩, ⟨scB, lcB, kcB⟩⟩) := if_pos hlt
        have hyE := (HBW.out.block w.heap.size (by have := HS1.out; omega)).trans HY1.out
        have HSTE := hid (store_slot (nb := nbB) (bt := btB) (lj := ljB) (lc := lcB) (aj := ajB) (ac := acB) (nj := njB) (cj := cjB) (nc := ncB) (cc := ccB) (kj := kjB) (kc := kcB) hyE)
        have HYE := hid hyE
        clear hyE
        have tok : True := trivial
        go_wp2_with (have _t := tok; refine step_store 32 rfl _ _ rfl _ HSTE.out ?_; clear tok)
        refine bodyPost_ret (ret_pair Try.results21 _ _ w.heap.size _ rfl (setRow_heap _ _ _ _ _ _ HYE.out) rfl) rfl ⟨?_, below_setRow (HB1.out.trans (HBW.out.mono HB1.out.size)) (Nat.le_refl _) _⟩
        rw [HPA.out, HPB.out, HBE.out]
        exact ⟨ajB, njB, cjB, acB, ncB, ccB, rfl, HFFB.out.1, HFFB.out.2.1, HJFB.out.setRow (fun v hv => by have := HFFB.out.2.2.1 v hv; have := HLOB.out; omega), HCFB.out.setRow (fun v hv => by have := HFFB.out.2.2.2 v hv; have := HLOB.out; omega), fun v hv => by have := HFFB.out.2.2.1 v hv; have := HLOB.out; omega, fun v hv => by have := HFFB.out.2.2.2 v hv; have := HLOB.out; omega⟩
      · have HBE : Hid (best (some ⟨nbA, btA, ⟨sjA, ljA, kjA⟩, ⟨scA, lcA, kcA⟩⟩) (some ⟨nbB, btB, ⟨sjB, ljB, kjB⟩, ⟨scB, lcB, kcB⟩⟩) = some ⟨nbA, btA, ⟨sjA, ljA, kjA⟩, ⟨scA, lcA, kcA⟩⟩) := if_neg hlt
        have hyE := (HBW.out.block w.heap.size (by have := HS1.out; omega)).trans HY1.out
        have HSTE := hid (store_slot (nb := nbA) (bt := btA) (lj := ljA) (lc := lcA) (aj := ajA) (ac := acA) (nj := njA) (cj := cjA) (nc := ncA) (cc := ccA) (kj := kjA) (kc := kcA) hyE)
        have HYE := hid hyE
        clear hyE
        have tok : True := trivial
        go_wp2_with (have _t := tok; refine step_store 32 rfl _ _ rfl _ HSTE.out ?_; clear tok)
        refine bodyPost_ret (ret_pair Try.results21 _ _ w.heap.size _ rfl (setRow_heap _ _ _ _ _ _ HYE.out) rfl) rfl ⟨?_, below_setRow (HB1.out.trans (HBW.out.mono HB1.out.size)) (Nat.le_refl _) _⟩
        rw [HPA.out, HPB.out, HBE.out]
        exact ⟨ajA, njA, cjA, acA, ncA, ccA, rfl, HFFA.out.1, HFFA.out.2.1, HJFA.out.setRow (fun v hv => by have := HFFA.out.2.2.1 v hv; have := HLOA.out; omega), HCFA.out.setRow (fun v hv => by have := HFFA.out.2.2.2 v hv; have := HLOA.out; omega), fun v hv => by have := HFFA.out.2.2.1 v hv; have := HLOA.out; omega, fun v hv => by have := HFFA.out.2.2.2 v hv; have := HLOA.out; omega⟩
end Go.Proofs.Ytmfmhlhpleahpaa
