/- What the program's Parse answers. Condition: at most a million bytes. -/
import Derived.Test.YtmfmhlhpleahpaaSupF
namespace Go.Proofs.Ytmfmhlhpleahpaa
open Go.RowKit Pen
open Crc (four nx)
theorem mids_lt : ∀ (k : Nat) (l : List Nat), (∀ x ∈ l, x < 256) → ∀ x ∈ mids k l, x < 256
  | 0, _, _ => fun x hx => by simp [mids] at hx
  | k + 1, l, h => by
    intro x hx
    rw [mids] at hx
    rcases List.mem_append.1 hx with hx | hx
    · exact h x (List.mem_of_mem_drop (List.mem_of_mem_take hx))
    · exact mids_lt k _ (fun y hy => h y (List.mem_of_mem_drop hy)) x hx
theorem eN_lt (l : List Nat) (h : ∀ x ∈ l, x < 256) : ∀ x ∈ (eN l).2, x < 256 := by
  obtain ⟨k, hk⟩ := eNum_sub 9 0 0 l
  intro x hx
  have hx' : x ∈ (eNum 9 0 0 l).2.1 := hx
  rw [hk] at hx'
  exact h x (List.mem_of_mem_drop hx')
theorem q4_lt (l : List Nat) (h : ∀ x ∈ l, x < 256) : le (q4 l) < 4294967296 := by
  have h1 := le_lt (q4 l) (by
    intro x hx
    simp only [q4, List.mem_cons, List.not_mem_nil, or_false] at hx
    rcases hx with rfl | rfl | rfl | rfl <;> exact Pen.getD_lt h _)
  have e : (256 : Nat) ^ (q4 l).length = 4294967296 := by show (256 : Nat) ^ 4 = _; decide
  omega
theorem hRest_lt (l : List Nat) (h : ∀ x ∈ l, x < 256) : ∀ x ∈ hRest l, x < 256 := fun x hx => eN_lt l h x (List.mem_of_mem_drop hx)
theorem hLog_ok (l : List Nat) (h : ∀ x ∈ l, x < 256) (hl : l.length ≤ 1000) : (hLog l).1.last < 4294967296 ∧ (hLog l).1.segs.length ≤ 1000 ∧ (∀ x ∈ (hLog l).2, x < 256) ∧ (hLog l).2.length ≤ 1000 := by
  refine ⟨q4_lt _ (eN_lt _ (hRest_lt l h)), ?_, fun x hx => eN_lt _ (hRest_lt l h) x (List.mem_of_mem_drop hx), Nat.le_trans (hLog_len l) hl⟩
  show (hSegs l).length ≤ 1000
  unfold hSegs
  rw [List.length_map, List.length_take]
  have := eN_len l
  omega
theorem heard_ok (b : List Nat) (h : ∀ x ∈ b, x < 256) : (heard b).j.last < 4294967296 ∧ (heard b).c.last < 4294967296 ∧ (heard b).j.segs.length ≤ 1000 ∧ (heard b).c.segs.length ≤ 1000 := by
  have h1 := mids_lt 4 b h
  have h2 := mids_len 4 b
  have h3 : ∀ x ∈ (mids 4 b).drop 2, x < 256 := fun x hx => h1 x (List.mem_of_mem_drop hx)
  have h4 := eN_lt _ (eN_lt _ h3)
  have h5 : (eN (eN ((mids 4 b).drop 2)).2).2.length ≤ 1000 := by
    have a := eN_len ((mids 4 b).drop 2)
    have c := eN_len (eN ((mids 4 b).drop 2)).2
    rw [List.length_drop] at a
    omega
  obtain ⟨a1, a2, a3, a4⟩ := hLog_ok _ h4 h5
  obtain ⟨b1, b2, _, _⟩ := hLog_ok _ a3 a4
  exact ⟨a1, b1, a2, b2⟩
theorem ret_pair {fn : Func} {p u : Tmp} (h : fn.results = #[.cell p 32, .tmp u]) (tmps : Array Value) (w : World) (g : Nat) (cs : Array Value) (hp : tmps.getD p undef = .pointer (some ⟨g, 0, none⟩)) (hg : w.heap[g]? = some (.cells cs 32 (0, 0))) (hc : cs.size = 8) :
    (results fn tmps).run Try.prog w = .ok (.tuple #[.agg cs, tmps.getD u undef]) w := by
  rw [results_cell_tmp h, hp]
  simp [asAddr, run_loadVar_row w g 32 32 cs (0, 0) _ hg Try.underlying32 rfl (by rw [hc]; exact size32), Result.andThen]
theorem one8z : ∀ v ∈ ([.int .i64 0, .int .i64 0, .slice none 0 0, .int .i64 0, .int .u32 0, .slice none 0 0, .int .i64 0, .int .u32 0] : List Value), v.oneCell' = true := by
  intro v hv
  simp at hv
  rcases hv with rfl | rfl | rfl | rfl | rfl | rfl | rfl <;> rfl
theorem store_zero {w : World} {y : Nat} (h : w.heap[y]? = some (.cells #[.int .i64 0, .int .i64 0, .slice none 0 0, .int .i64 0, .int .u32 0, .slice none 0 0, .int .i64 0, .int .u32 0] 32 (0, 0))) :
    (Instr.storeAt 32 (.pointer (some ⟨y, 0, none⟩)) (.agg #[.int .i64 0, .int .i64 0, .slice none 0 0, .int .i64 0, .int .u32 0, .slice none 0 0, .int .i64 0, .int .u32 0])).run Try.prog w = .ok () (w.setRow y #[.int .i64 0, .int .i64 0, .slice none 0 0, .int .i64 0, .int .u32 0, .slice none 0 0, .int .i64 0, .int .u32 0]) := by
  have e := run_storeAt_row w y 0 32 32 [.int .i64 0, .int .i64 0, .slice none 0 0, .int .i64 0, .int .u32 0, .slice none 0 0, .int .i64 0, .int .u32 0] [.int .i64 0, .int .i64 0, .slice none 0 0, .int .i64 0, .int .u32 0, .slice none 0 0, .int .i64 0, .int .u32 0] h size32 (by simp) one8z
  rw [splice_all _ _ (by simp)] at e
  exact e
theorem store_slot {w : World} {y : Nat} {nb bt lj lc : Int} {aj ac : Option Addr} {nj cj nc cc kj kc : Nat} (h : w.heap[y]? = some (.cells #[.int .i64 0, .int .i64 0, .slice none 0 0, .int .i64 0, .int .u32 0, .slice none 0 0, .int .i64 0, .int .u32 0] 32 (0, 0))) :
    (Instr.storeAt 32 (.pointer (some ⟨y, 0, none⟩)) (.agg #[.int .i64 nb, .int .i64 bt, .slice aj nj cj, .int .i64 lj, .int .u32 (kj : Int), .slice ac nc cc, .int .i64 lc, .int .u32 (kc : Int)])).run Try.prog w = .ok () (w.setRow y #[.int .i64 nb, .int .i64 bt, .slice aj nj cj, .int .i64 lj, .int .u32 (kj : Int), .slice ac nc cc, .int .i64 lc, .int .u32 (kc : Int)]) := by
  have e := run_storeAt_row w y 0 32 32 [.int .i64 0, .int .i64 0, .slice none 0 0, .int .i64 0, .int .u32 0, .slice none 0 0, .int .i64 0, .int .u32 0] [.int .i64 nb, .int .i64 bt, .slice aj nj cj, .int .i64 lj, .int .u32 (kj : Int), .slice ac nc cc, .int .i64 lc, .int .u32 (kc : Int)] h size32 (by simp) (by intro v hv; simp at hv; rcases hv with rfl | rfl | rfl | rfl | rfl | rfl | rfl | rfl <;> rfl)
  rw [splice_all _ _ (by simp)] at e
  exact e
/-- What Parse hands out. -/
def Parsed (base : Nat) (e : Ending) (w' : World) : Option Sp → Prop
  | none => e = .returned (.tuple #[.agg #[.int .i64 0, .int .i64 0, .slice none 0 0, .int .i64 0, .int .u32 0, .slice none 0 0, .int .i64 0, .int .u32 0], .bool false])
  | some s => ∃ aj nj cj ac nc cc, e = .returned (.tuple #[.agg #[.int .i64 s.number, .int .i64 s.boot, .slice aj nj cj, .int .i64 s.j.len, .int .u32 (s.j.last : Int), .slice ac nc cc, .int .i64 s.c.len, .int .u32 (s.c.last : Int)], .bool true]) ∧ s.j.segs.length = nj ∧ s.c.segs.length = nc ∧ IRow w' aj s.j.segs ∧ IRow w' ac s.c.segs ∧ (∀ v, aj = some v → base ≤ v.block) ∧ (∀ v, ac = some v → base ≤ v.block)
set_option maxRecDepth 10000 in
set_option maxHeartbeats 4000000 in
theorem parse_any (w : World) (a : Option Addr) (b : List Nat) (n cp : Nat) (hr : Row w a b) (hl : b.length = n) (hcp : n ≤ cp) (k : Int) :
    Calls Try.prog 14 #[.slice a n cp, .int .i64 k] w fun e w' => Parsed w.heap.size e w' (parse b k) ∧ Below w.heap.size w w' := by
  obtain ⟨P, hP⟩ : ∃ P, parse b k = P := ⟨_, rfl⟩
  rw [hP]
  obtain ⟨w1, hw1⟩ : ∃ w1, w1 = w.alloc (.cells #[.int .i64 0, .int .i64 0, .slice none 0 0, .int .i64 0, .int .u32 0, .slice none 0 0, .int .i64 0, .int .u32 0] 32) := ⟨_, rfl⟩
  have hb1 : Below w.heap.size w w1 := by rw [hw1]; exact (Below.refl _ _).alloc (Nat.le_refl _) _
  have hy1 : w1.heap[w.heap.size]? = some (.cells #[.int .i64 0, .int .i64 0, .slice none 0 0, .int .i64 0, .int .u32 0, .slice none 0 0, .int .i64 0, .int .u32 0] 32 (0, 0)) := by rw [hw1]; exact heap_alloc_new _ _
  have hs1 : w1.heap.size = w.heap.size + 1 := by rw [hw1]; simp
  have HPP := hid hP
  have HW1 := hid hw1
  have HB1 := hid hb1
  have HY1 := hid hy1
  have HS1 := hid hs1
  have HST1 := hid (store_zero hy1)
  have HRB := hid hr.1
  have HR1 := hid (hr.below hb1)
  have HLB := hid hl
  clear hP hw1 hb1 hy1 hs1 hr
  by_cases h256 : n = 256
  · subst h256
    have hkh := heard_any (w := w1) a b cp HR1.out HLB.out hcp
    obtain ⟨k1, k2, k3, k4⟩ := heard_ok b HRB.out
    have hpe : parse b k = if (heard b).may k = true ∧ (heard b).bytes = b then some (heard b) else none := by
      unfold parse; simp [HLB.out]
    generalize heard b = s at *
    obtain ⟨nb, bt, ⟨sj, lj, kj⟩, ⟨sc, lc, kc⟩⟩ := s
    dsimp only at hkh k1 k2 k3 k4
    have HPE := hid hpe
    have HKH := hid hkh
    have HKK := hid (And.intro k1 (And.intro k2 (And.intro k3 k4)))
    clear hkh hpe k1 k2 k3 k4 hl hcp
    go_enter Try.func14, Try.ntmps14
    go_wp2_with fail
    rw [← HW1.out]
    refine HKH.out.mono ?_
    rintro e w2 ⟨aj, nj, cj, ac, nc, cc, rfl, hnj, hnc, hrj, hrc, hb2, hja, hca⟩
    obtain ⟨w3, hw3⟩ : ∃ w3, w3 = w2.alloc (.cells #[.int .i64 nb, .int .i64 bt, .slice aj nj cj, .int .i64 lj, .int .u32 (kj : Int), .slice ac nc cc, .int .i64 lc, .int .u32 (kc : Int)] 32) := ⟨_, rfl⟩
    have hb3 : Below w2.heap.size w2 w3 := by rw [hw3]; exact (Below.refl _ _).alloc (Nat.le_refl _) _
    have hx3 : w3.heap[w2.heap.size]? = some (.cells #[.int .i64 nb, .int .i64 bt, .slice aj nj cj, .int .i64 lj, .int .u32 (kj : Int), .slice ac nc cc, .int .i64 lc, .int .u32 (kc : Int)] 32 (0, 0)) := by rw [hw3]; exact heap_alloc_new _ _
    have HB3 := hid (hb2.trans (hb3.mono hb2.size))
    have HRJ := hid (hrj.below hb3)
    have HRC := hid (hrc.below hb3)
    have HX3 := hid hx3
    have HW3 := hid hw3
    have HNJ := hid (And.intro hnj hnc)
    have HJA : Hid (∀ v, aj = some v → w.heap.size < v.block) := fun v hv => by have := hja v hv; have := HS1.out; omega
    have HCA : Hid (∀ v, ac = some v → w.heap.size < v.block) := fun v hv => by have := hca v hv; have := HS1.out; omega
    have HXL : Hid (w1.heap.size ≤ w2.heap.size) := hb2.size
    obtain ⟨d0, d1, d2, d3, d4, d5, d6, d7⟩ := cells8 hx3
    rw [hw3] at d0 d1 d2 d3 d4 d5 d6 d7
    clear HKH hnj hnc hrj hrc hb2 hb3 hx3 hw3 hja hca
    go_wp2_with fail
    rw [← HW3.out]
    rw [← HW3.out] at d0 d1 d2 d3 d4 d5 d6 d7
    generalize w2.heap.size = x at *
    clear HW3 d0 d1 d2 d3 d4 d5 d6 d7
    have hkm := may_any w3 nb bt aj nj cj lj kj ac nc cc lc kc sj sc HRJ.out HNJ.out.1 (by have := HKK.out.2.2.1; have := HNJ.out.1; omega) HRC.out HNJ.out.2 (by have := HKK.out.2.2.2; have := HNJ.out.2; omega) k
    generalize hmm : Sp.may ⟨nb, bt, ⟨sj, lj, kj⟩, ⟨sc, lc, kc⟩⟩ k = mm at *
    have HMM := hid hmm
    clear hmm
    refine hkm.mono ?_
    rintro e w4 ⟨rfl, hb4⟩
    have HB4 := hid (HB3.out.trans (hb4.mono HB3.out.size))
    have hx4 := (hb4.block x (Array.getElem?_eq_some_iff.1 HX3.out).1).trans HX3.out
    have HX4 := hid hx4
    have HRJ4 := hid (HRJ.out.below hb4)
    have HRC4 := hid (HRC.out.below hb4)
    cases mm
    · have HN : Hid (P = none) := by
        show _ = _
        rw [← HPP.out, HPE.out, if_neg (by rintro ⟨h, _⟩; cases h)]
      clear hkm hb4 hx4
      have hyE := (HB4.out.block w.heap.size (by have := HS1.out; omega)).trans HY1.out
      have HSTE := hid (store_zero hyE)
      have HYE := hid (setRow_heap w4 w.heap.size _ #[.int .i64 0, .int .i64 0, .slice none 0 0, .int .i64 0, .int .u32 0, .slice none 0 0, .int .i64 0, .int .u32 0] 32 (0, 0) hyE)
      have HBE := hid (below_setRow (HB1.out.trans (HB4.out.mono HB1.out.size)) (Nat.le_refl _) #[.int .i64 0, .int .i64 0, .slice none 0 0, .int .i64 0, .int .u32 0, .slice none 0 0, .int .i64 0, .int .u32 0])
      clear hyE
      have tok : True := trivial
      go_wp2_with (have _t := tok; refine step_store 32 rfl _ _ rfl _ HSTE.out ?_; clear tok)
      refine bodyPost_ret (ret_pair Try.results14 _ _ w.heap.size _ rfl HYE.out rfl) rfl ⟨?_, HBE.out⟩
      rw [HN.out]
      rfl
    · have hok : Sp.Ok ⟨nb, bt, ⟨sj, lj, kj⟩, ⟨sc, lc, kc⟩⟩ 96 := may_96 HMM.out
      have hkb := bytesS_any w4 nb bt aj nj cj lj kj ac nc cc lc kc sj sc HRJ4.out HNJ.out.1 (by have := HKK.out.2.2.1; have := HNJ.out.1; omega) HRC4.out HNJ.out.2 (by have := HKK.out.2.2.2; have := HNJ.out.2; omega) HKK.out.1 HKK.out.2.1 _ rfl hok
      have HLS := hid (bytes_len hok)
      have HLT := hid (bytes_lt hok HKK.out.1 HKK.out.2.1)
      obtain ⟨d0, d1, d2, d3, d4, d5, d6, d7⟩ := cells8 hx4
      generalize hBS : Sp.bytes ⟨nb, bt, ⟨sj, lj, kj⟩, ⟨sc, lc, kc⟩⟩ = BS at *
      have HBS := hid hBS
      have HKB := hid hkb
      clear hkm hb4 hx4 hok hBS hkb
      go_wp2_with fail
      refine HKB.out.mono ?_
      rintro e w5 ⟨g5, c5, rfl, ho5, hb5⟩
      have HB5 := hid (HB4.out.trans (hb5.mono HB4.out.size))
      have hx5 := (hb5.block x (Array.getElem?_eq_some_iff.1 HX4.out).1).trans HX4.out
      have HRJ5 := hid (HRJ4.out.below hb5)
      have HRC5 := hid (HRC4.out.below hb5)
      have hr5 := (row_of_owns' HLS.out ho5 HLT.out).2
      have hke := equal_any (w := w5) (some ⟨g5, 0, none⟩) a BS b 256 256 c5 cp HLS.out HLB.out hr5 (HR1.out.below HB5.out)
      generalize hee : decide (BS = b) = ee at *
      have HKE := hid hke
      have HEE := hid hee
      clear d0 d1 d2 d3 d4 d5 d6 d7
      obtain ⟨d0, d1, d2, d3, d4, d5, d6, d7⟩ := cells8 hx5
      clear HKB ho5 hb5 hr5 hke hee hx5
      go_wp2_with fail
      refine HKE.out.mono ?_
      rintro e w6 ⟨rfl, rfl⟩
      cases ee
      · have HN : Hid (P = none) := by
          show _ = _
          rw [← HPP.out, HPE.out, if_neg (by rintro ⟨_, h⟩; have := HEE.out; rw [h] at this; simp at this)]
        clear HKE d0 d1 d2 d3 d4 d5 d6 d7
        have hyE := (HB5.out.block w.heap.size (by have := HS1.out; omega)).trans HY1.out
        have HSTE := hid (store_zero hyE)
        have HYE := hid (setRow_heap w6 w.heap.size _ #[.int .i64 0, .int .i64 0, .slice none 0 0, .int .i64 0, .int .u32 0, .slice none 0 0, .int .i64 0, .int .u32 0] 32 (0, 0) hyE)
        have HBE := hid (below_setRow (HB1.out.trans (HB5.out.mono HB1.out.size)) (Nat.le_refl _) #[.int .i64 0, .int .i64 0, .slice none 0 0, .int .i64 0, .int .u32 0, .slice none 0 0, .int .i64 0, .int .u32 0])
        clear hyE
        have tok : True := trivial
        go_wp2_with (have _t := tok; refine step_store 32 rfl _ _ rfl _ HSTE.out ?_; clear tok)
        refine bodyPost_ret (ret_pair Try.results14 _ _ w.heap.size _ rfl HYE.out rfl) rfl ⟨?_, HBE.out⟩
        rw [HN.out]
        rfl
      · have HN : Hid (P = some ⟨nb, bt, ⟨sj, lj, kj⟩, ⟨sc, lc, kc⟩⟩) := by
          show _ = _
          rw [← HPP.out, HPE.out, if_pos ⟨by first | rfl | trivial, of_decide_eq_true HEE.out⟩]
        have hyE := (HB5.out.block w.heap.size (by have := HS1.out; omega)).trans HY1.out
        have HSTE := hid (store_slot (nb := nb) (bt := bt) (lj := lj) (lc := lc) (aj := aj) (ac := ac) (nj := nj) (cj := cj) (nc := nc) (cc := cc) (kj := kj) (kc := kc) hyE)
        have HYE := hid (setRow_heap w6 w.heap.size _ #[.int .i64 nb, .int .i64 bt, .slice aj nj cj, .int .i64 lj, .int .u32 (kj : Int), .slice ac nc cc, .int .i64 lc, .int .u32 (kc : Int)] 32 (0, 0) hyE)
        have HBE := hid (below_setRow (HB1.out.trans (HB5.out.mono HB1.out.size)) (Nat.le_refl _) #[.int .i64 nb, .int .i64 bt, .slice aj nj cj, .int .i64 lj, .int .u32 (kj : Int), .slice ac nc cc, .int .i64 lc, .int .u32 (kc : Int)])
        clear hyE HKE
        have tok : True := trivial
        go_wp2_with (have _t := tok; refine step_store 32 rfl _ _ rfl _ HSTE.out ?_; clear tok)
        refine bodyPost_ret (ret_pair Try.results14 _ _ w.heap.size _ rfl HYE.out rfl) rfl ⟨?_, HBE.out⟩
        rw [HN.out]
        refine ⟨aj, nj, cj, ac, nc, cc, rfl, HNJ.out.1, HNJ.out.2, HRJ5.out.setRow (fun v hv => by have := HJA.out v hv; omega), HRC5.out.setRow (fun v hv => by have := HCA.out v hv; omega), fun v hv => Nat.le_of_lt (HJA.out v hv), fun v hv => Nat.le_of_lt (HCA.out v hv)⟩
  · have hni : ¬ ((n : Int) = 256) := by omega
    have hnb : ((n : Int) == 256) = false := by simp [hni]
    have HN : Hid (P = none) := by
      show _ = _
      rw [← HPP.out, parse, if_neg (by rintro ⟨h, _⟩; exact h256 (HLB.out ▸ h))]
    have HYE := hid (setRow_heap w1 w.heap.size _ #[.int .i64 0, .int .i64 0, .slice none 0 0, .int .i64 0, .int .u32 0, .slice none 0 0, .int .i64 0, .int .u32 0] 32 (0, 0) HY1.out)
    clear hl hcp
    go_enter Try.func14, Try.ntmps14
    have tok : True := trivial
    go_wp2_with (have _t := tok; rw [← HW1.out]; refine step_store 32 rfl _ _ rfl _ HST1.out ?_; clear tok)
    refine bodyPost_ret (ret_pair Try.results14 _ _ w.heap.size _ rfl HYE.out rfl) rfl ⟨?_, below_setRow HB1.out (Nat.le_refl _) _⟩
    rw [HN.out]
    rfl
end Go.Proofs.Ytmfmhlhpleahpaa
