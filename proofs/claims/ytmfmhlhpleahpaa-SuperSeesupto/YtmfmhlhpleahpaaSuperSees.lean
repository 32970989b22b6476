/- SuperSees: the bytes of a slot of which up to four one behind another are turned are none. Condition: the second form's: what comes in is of at most 1048576 values. -/
import Derived.Test.YtmfmhlhpleahpaaSupS
import Derived.Test.YtmfmhlhpleahpaaSupQ
import Derived.Test.YtmfmhlhpleahpaaSupT
import Derived.JoinedCond
namespace Go.Proofs.Ytmfmhlhpleahpaa
open Go.ChangeShapes Go.WideShapes Go.ChangeAt Go.RowKit Pen
open Crc (four nx)
open scoped Classical
/-- Bytes that may be written: at block g. -/
def OwnB (w : World) (g : Nat) (Y : List Nat) : Prop := (∀ x ∈ Y, x < 256) ∧ ∃ cur : Array Value, w.heap[g]? = some (.cells cur 5 (0, 0)) ∧ ∀ j, j < Y.length → cur[j]? = some (.int .u8 (Y.getD j 0 : Nat))
theorem OwnB.cell {w : World} {g : Nat} {Y : List Nat} (h : OwnB w g Y) (j : Nat) (hj : j < Y.length) : w.cell? ⟨g, j, none⟩ = some (.int .u8 (Y.getD j 0 : Nat)) := by
  obtain ⟨_, cur, h1, h2⟩ := h
  rw [cell_of_row w g j cur 5 (0, 0) h1]
  exact h2 j hj
theorem OwnB.fr {w : World} {g : Nat} {Y : List Nat} (h : OwnB w g Y) (j : Nat) : w.frozen? ⟨g, j, none⟩ = false := by
  obtain ⟨_, cur, h1, _⟩ := h
  exact frozen_of_row w g j cur 5 h1
theorem OwnB.row {w : World} {g : Nat} {Y : List Nat} (h : OwnB w g Y) : Row w (some ⟨g, 0, none⟩) Y :=
  ⟨h.1, .inr ⟨g, 0, rfl, by obtain ⟨_, cur, h1, _⟩ := h; exact (Array.getElem?_eq_some_iff.1 h1).1, fun i hi => by rw [Nat.zero_add]; exact h.cell i hi⟩⟩
theorem getD_set_nat (Y : List Nat) (i j x : Nat) (hi : i < Y.length) : (Y.set i x).getD j 0 = if i = j then x else Y.getD j 0 := by
  simp only [List.getD_eq_getElem?_getD, List.getElem?_set]
  by_cases h : i = j
  · subst h; simp [hi]
  · simp [h]
theorem OwnB.set {w : World} {g : Nat} {Y : List Nat} (h : OwnB w g Y) (i x : Nat) (hi : i < Y.length) (hx : x < 256) : OwnB (w.setCell ⟨g, i, none⟩ (.int .u8 (x : Int))) g (Y.set i x) := by
  obtain ⟨h0, cur, h1, h2⟩ := h
  refine ⟨fun y hy => ?_, _, heap_setCell_same _ _ _ _ _ _ h1, fun j hj => ?_⟩
  · rcases List.mem_or_eq_of_mem_set hy with h | h
    · exact h0 y h
    · rw [h]; exact hx
  · rw [List.length_set] at hj
    rw [Array.getElem?_setIfInBounds, getD_set_nat Y i j x hi]
    by_cases e : i = j
    · subst e
      have hs : i < cur.size := by
        have := h2 i hj
        exact (Array.getElem?_eq_some_iff.1 this).1
      rw [if_pos rfl, if_pos rfl, if_pos hs]
    · rw [if_neg e, if_neg e]
      exact h2 j hj
theorem ownB_of {w : World} {base g n cap : Nat} {l : List Nat} (hn : l.length = n) (h : w.ownsRow base 5 1 (.slice (some ⟨g, 0, none⟩) n cap) n (vals l)) (hl : ∀ x ∈ l, x < 256) : OwnB w g l ∧ base ≤ g ∧ n ≤ cap := by
  rcases h.2 with ⟨e, _⟩ | ⟨g', cap', cur, hv, hb, hg, hc, hm, hs, ht⟩
  · simp at e
  · simp at hv
    obtain ⟨rfl, rfl⟩ := hv
    refine ⟨⟨hl, cur, hg, fun j hj => ?_⟩, hb, hc⟩
    have := vals_get l j hj
    rw [← ht, Nat.mul_one, List.getElem?_take, if_pos (by omega)] at this
    simpa using this
/-- While bytes are turned: from a on, i of them. -/
structure Turn (X Y : List Nat) (a i : Nat) (c : Bool) : Prop where
  len : Y.length = X.length
  near : ∀ j, X.getD j 0 ≠ Y.getD j 0 → a ≤ j ∧ j < a + i
  no : c = false → Y = X
  yes : c = true → ∃ j, j < a + i ∧ j < X.length ∧ X.getD j 0 ≠ Y.getD j 0
theorem turn_zero (X : List Nat) (a : Nat) : Turn X X a 0 false := ⟨rfl, fun j h => absurd rfl h, fun _ => rfl, fun h => by cases h⟩
theorem xor_ne {x y : Nat} (h : y ≠ 0) : x ≠ x ^^^ y := by
  intro e
  have : x ^^^ x = x ^^^ (x ^^^ y) := by rw [← e]
  rw [Nat.xor_self, ← Nat.xor_assoc, Nat.xor_self, Nat.zero_xor] at this
  exact h this.symm
theorem Turn.step {X Y : List Nat} {a i : Nat} {c : Bool} (h : Turn X Y a i c) (y : Nat) (hi : a + i < X.length) : Turn X (Y.set (a + i) (Y.getD (a + i) 0 ^^^ y)) a (i + 1) (c || !(y == 0)) := by
  have hl := h.len
  have hsame : X.getD (a + i) 0 = Y.getD (a + i) 0 := by
    by_cases e : X.getD (a + i) 0 = Y.getD (a + i) 0
    · exact e
    · have := h.near _ e; omega
  have hg : ∀ j, (Y.set (a + i) (Y.getD (a + i) 0 ^^^ y)).getD j 0 = if a + i = j then Y.getD (a + i) 0 ^^^ y else Y.getD j 0 := fun j => getD_set_nat Y (a + i) j _ (by omega)
  refine ⟨by rw [List.length_set, hl], fun j hj => ?_, fun hc => ?_, fun hc => ?_⟩
  · rw [hg] at hj
    by_cases e : a + i = j
    · omega
    · rw [if_neg e] at hj
      have := h.near j hj
      omega
  · have hc' : c = false ∧ y = 0 := by simpa using hc
    obtain ⟨h1, rfl⟩ := hc'
    rw [h.no h1, Nat.xor_zero]
    refine ext_getD (by simp) (fun j hj => ?_)
    rw [getD_set_nat X (a + i) j _ hi]
    by_cases e : a + i = j
    · rw [if_pos e, e]
    · rw [if_neg e]
  · by_cases h0 : y = 0
    · have h1 : c = true := by simpa [h0] using hc
      obtain ⟨j, h2, h3, h4⟩ := h.yes h1
      refine ⟨j, by omega, h3, ?_⟩
      rw [hg, if_neg (by omega)]
      exact h4
    · refine ⟨a + i, by omega, hi, ?_⟩
      rw [hg, if_pos rfl, hsame]
      exact xor_ne h0
theorem Turn.ends {s : Sp} (hs : s.Ok 96) (s1 : s.j.last < 4294967296) (s2 : s.c.last < 4294967296) {Y : List Nat} {a i : Nat} {c : Bool} (h : Turn s.bytes Y a i c) (hi : i ≤ 4) (hY : ∀ x ∈ Y, x < 256) : parse Y 96 = if c then none else some s := by
  cases c with
  | false =>
    rw [h.no rfl, parse_bytes hs s1 s2, may_of_96, decide_eq_true hs]
    rfl
  | true =>
    obtain ⟨j, _, _, h3⟩ := h.yes rfl
    exact near_none (a := a) hs s1 s2 hY ⟨h.len.symm, fun j _ hj => by have := h.near j hj; omega⟩ (fun e => h3 (by rw [e])) 96
set_option maxRecDepth 20000 in
set_option maxHeartbeats 8000000 in
theorem superSees_walk (w : World) (c0 : Array Value) (a : Sp) (h0 : SupIn w (.agg c0) a) (hfew : a.j.segs.length + a.c.segs.length ≤ 1000000000) (at_ t : Nat) (hat : at_ < 256) :
    Calls Try.prog 7 #[.agg c0, .int .u8 (at_ : Int), .int .u32 (t : Int)] w fun e w' => e = .returned (.bool true) ∧ Below w.heap.size w w' := by
  obtain ⟨nb, bt, aj, nj, cj, lj, kj, ac, nc, cc, lc, kc, sj, sc, hv, hs, hj, hnj, hc, hnc, hkj, hkc, hmj, hmc⟩ := h0
  obtain rfl : c0 = #[.int .i64 nb, .int .i64 bt, .slice aj nj cj, .int .i64 lj, .int .u32 (kj : Int), .slice ac nc cc, .int .i64 lc, .int .u32 (kc : Int)] := by simpa using hv
  clear hv
  obtain ⟨w2, hw2⟩ : ∃ w2, w2 = w.alloc (.cells #[.int .i64 nb, .int .i64 bt, .slice aj nj cj, .int .i64 lj, .int .u32 (kj : Int), .slice ac nc cc, .int .i64 lc, .int .u32 (kc : Int)] 27) := ⟨_, rfl⟩
  have hb2 : Below w.heap.size w w2 := by rw [hw2]; exact (Below.refl _ _).alloc (Nat.le_refl _) _
  have hq2 : w2.heap[w.heap.size]? = some (.cells #[.int .i64 nb, .int .i64 bt, .slice aj nj cj, .int .i64 lj, .int .u32 (kj : Int), .slice ac nc cc, .int .i64 lc, .int .u32 (kc : Int)] 27 (0, 0)) := by rw [hw2]; exact heap_alloc_new _ _
  have hz2 : w.heap.size < w2.heap.size := by rw [hw2]; simp
  have hfw : nj + nc ≤ 1000000000 := by rw [hs] at hfew; dsimp only at hfew; omega
  have HS := hid hs
  have HW2 := hid hw2
  have HB2 := hid hb2
  have HQ2 := hid hq2
  have HZ2 := hid hz2
  have HA := hid (And.intro hj (And.intro hnj (And.intro hc (And.intro hnc (And.intro hkj hkc)))))
  clear hw2 hb2 hq2 hz2 hj hnj hc hnc hkj hkc hmj hmc hs hfew
  go_enter Try.func7, Try.ntmps7
  go_wp2_with fail
  rw [← HW2.out]
  clear HW2
  refine (awake_any _).mono ?_
  rintro e w3 ⟨rfl, hb3⟩
  have HB3 := hid (HB2.out.trans (hb3.mono HB2.out.size))
  have HQ3 := hid ((hb3.block _ HZ2.out).trans HQ2.out)
  have HL3 : Hid (w.heap.size < w3.heap.size) := Nat.lt_of_lt_of_le HZ2.out hb3.size
  obtain ⟨q, hwq⟩ : ∃ q, w.heap.size = q := ⟨_, rfl⟩
  rw [hwq] at HQ3 HL3 ⊢
  have HWQ := hid hwq
  clear hb3 HB2 HQ2 HZ2 hwq
  obtain ⟨e0, e1, e2, e3, e4, e5, e6, e7⟩ := cells8 HQ3.out
  have HMA := hid (refMay_any w3 nb bt aj nj cj lj kj ac nc cc lc kc sj sc (HA.out.1.below HB3.out) HA.out.2.1 (HA.out.2.2.1.below HB3.out) HA.out.2.2.2.1 hfw 96 a HS.out)
  cases hra : a.refMay 96
  · rw [hra] at HMA
    clear hra
    go_wp2_with fail
    refine HMA.out.mono ?_
    rintro e w4 ⟨rfl, hb4⟩
    have HB4 := hid (HB3.out.trans (hb4.mono HB3.out.size))
    clear hb4
    go_wp2_with fail
    go_ret
    exact ⟨rfl, HB4.out⟩
  have HOA := hid ((refMay96 a).1 hra)
  rw [hra] at HMA
  clear hra
  have hfew := HOA.out.few
  rw [HS.out] at hfew
  dsimp only at hfew
  have l1 : ¬ (96 : Int) < (nj : Int) := by have := HA.out.2.1; omega
  have l2 : ¬ (96 : Int) < (nc : Int) := by have := HA.out.2.2.2.1; omega
  have HFW := hid hfew
  clear hfew
  go_wp2_with fail
  refine HMA.out.mono ?_
  rintro e w4 ⟨rfl, hb4⟩
  have HB4 := hid (HB3.out.trans (hb4.mono HB3.out.size))
  have HQ4 := hid ((hb4.block _ HL3.out).trans HQ3.out)
  have HL4 : Hid (q < w4.heap.size) := Nat.lt_of_lt_of_le HL3.out hb4.size
  clear hb4 HB3 HQ3 HL3 HMA e0 e1 e2 e3 e4 e5 e6 e7
  obtain ⟨e0, e1, e2, e3, e4, e5, e6, e7⟩ := cells8 HQ4.out
  go_wp2_with fail
  refine (made_any _ nb bt aj nj cj lj kj ac nc cc lc kc).mono ?_
  rintro e w6 ⟨rfl, hb6⟩
  have HB6 := hid (HB4.out.trans (hb6.mono HB4.out.size))
  have HQ6 := hid ((hb6.block _ HL4.out).trans HQ4.out)
  have HL6 : Hid (q < w6.heap.size) := Nat.lt_of_lt_of_le HL4.out hb6.size
  clear hb6 e0 e1 e2 e3 e4 e5 e6 e7 HQ4 HL4 HB4
  unfold spV
  go_wp2_with fail
  refine (bytesS_any _ nb bt aj nj cj lj kj ac nc cc lc kc sj sc (HA.out.1.below HB6.out) HA.out.2.1 (by have := HFW.out; have := HA.out.2.1; omega) (HA.out.2.2.1.below HB6.out) HA.out.2.2.2.1 (by have := HFW.out; have := HA.out.2.2.2.1; omega) HA.out.2.2.2.2.1 HA.out.2.2.2.2.2 a HS.out HOA.out).mono ?_
  rintro e w7 ⟨g, cap, rfl, ho7, hb7⟩
  have HLT := hid (And.intro (bytes_len HOA.out) (bytes_lt HOA.out (by rw [HS.out]; exact HA.out.2.2.2.2.1) (by rw [HS.out]; exact HA.out.2.2.2.2.2)))
  obtain ⟨hob, hgb, hcp⟩ := ownB_of HLT.out.1 ho7 HLT.out.2
  have HOB := hid hob
  have HB7 := hid (HB6.out.trans (hb7.mono HB6.out.size))
  have HQ7 := hid ((hb7.block _ HL6.out).trans HQ6.out)
  have HG : Hid (q < g ∧ w.heap.size ≤ g) := by have := HL6.out; have := HB6.out.size; show _ ∧ _; omega
  have HCP := hid hcp
  clear hb7 HQ6 HL6 HB6 ho7 hob hgb hcp
  go_wp2_with fail
  go_loopg [9, 10] 4 (fun gk v9 v10 wr => ∃ (i : Nat) (Y : List Nat) (c : Bool), i + gk = 4 ∧ v10 = .int .i64 (i : Int) ∧ v9 = .bool c ∧ Turn a.bytes Y at_ i c ∧ OwnB wr g Y ∧ Below w.heap.size w wr ∧ wr.heap[q]? = some (.cells #[.int .i64 nb, .int .i64 bt, .slice aj nj cj, .int .i64 lj, .int .u32 (kj : Int), .slice ac nc cc, .int .i64 lc, .int .u32 (kc : Int)] 27 (0, 0)))
  case atStart => exact ⟨0, a.bytes, false, rfl, rfl, rfl, turn_zero _ _, HOB.out, HB7.out, HQ7.out⟩
  case round =>
    obtain ⟨i, Y, c, hi, rfl, rfl, htn, hoy, hbr, hqr⟩ := hrel
    have HTN := hid htn
    have HOY := hid hoy
    have HBR := hid hbr
    have HQR := hid hqr
    clear htn hoy hbr hqr HOB HB7 HQ7
    by_cases hi4 : i < 4
    · by_cases hai : at_ + i < 256
      · have hc := HOY.out.cell (at_ + i) (by rw [HTN.out.len, HLT.out.1]; exact hai)
        have hf := HOY.out.fr (at_ + i)
        have hii : (i : Int) < 4 := by omega
        have haii : (at_ : Int) + (i : Int) < 256 := by omega
        generalize hyy : Y.getD (at_ + i) 0 = yy at *
        have hyl : yy < 256 := by rw [← hyy]; exact Pen.getD_lt HOY.out.1 _
        obtain ⟨y, hy, hyn⟩ : ∃ y : Nat, (t : Int) / 2 ^ (8 * i) % 256 = (y : Int) ∧ y < 256 := ⟨t / 2 ^ (8 * i) % 256, by push_cast; rfl, Nat.mod_lt _ (by decide)⟩
        have hx : bits .xor .u8 (yy : Int) ((t : Int) / 2 ^ (8 * i) % 256) = ((yy ^^^ y : Nat) : Int) := by
          rw [hy]
          exact u8_xor_nat yy y hyl hyn
        have hb : ((t : Int) / 2 ^ (8 * i) % 256 != 0) = !(y == 0) := by
          rw [hy]
          by_cases h : y = 0
          · subst h; rfl
          · have h1 : ((y : Int) != 0) = true := by simp; omega
            have h2 : (y == 0) = false := by simpa using h
            rw [h1, h2]; rfl
        have hxl : yy ^^^ y < 256 := Nat.xor_lt_two_pow (n := 8) hyl hyn
        have HSTP := hid (HTN.out.step y (by rw [HLT.out.1]; exact hai))
        rw [hyy] at HSTP
        have HOS := hid (HOY.out.set (at_ + i) (yy ^^^ y) (by rw [HTN.out.len, HLT.out.1]; exact hai) hxl)
        have HBS : Hid (Below w.heap.size w (wr.setCell ⟨g, at_ + i, none⟩ (.int .u8 ((yy ^^^ y : Nat) : Int)))) := HBR.out.setCell HG.out.2 _
        have HQS : Hid ((wr.setCell ⟨g, at_ + i, none⟩ (.int .u8 ((yy ^^^ y : Nat) : Int))).heap[q]? = some (.cells #[.int .i64 nb, .int .i64 bt, .slice aj nj cj, .int .i64 lj, .int .u32 (kj : Int), .slice ac nc cc, .int .i64 lc, .int .u32 (kc : Int)] 27 (0, 0))) := (Below.heap_setCell _ _ _ _ (by dsimp only; have := HG.out; omega)).trans HQR.out
        have HX := hid hx
        have HBB := hid hb
        clear hx hb hy hyn hxl hyl hyy
        cases c
        · go_wp2_with fail
          rw [HX.out, HBB.out]
          go_roundg (gk - 1)
          case measure => omega
          case rel => exact ⟨i + 1, _, _, by omega, by go_num, by rw [Bool.false_or], HSTP.out, HOS.out, HBS.out, HQS.out⟩
        · go_wp2_with fail
          rw [HX.out]
          go_roundg (gk - 1)
          case measure => omega
          case rel => exact ⟨i + 1, _, _, by omega, by go_num, by rw [Bool.true_or], HSTP.out, HOS.out, HBS.out, HQS.out⟩
      · have hii : (i : Int) < 4 := by omega
        have haii : ¬ (at_ : Int) + (i : Int) < 256 := by omega
        have kp := parse_any wr (some ⟨g, 0, none⟩) Y 256 cap HOY.out.row (by rw [HTN.out.len]; exact HLT.out.1) HCP.out 96
        rw [HTN.out.ends HOA.out (by rw [HS.out]; exact HA.out.2.2.2.2.1) (by rw [HS.out]; exact HA.out.2.2.2.2.2) (by omega) HOY.out.1] at kp
        cases c
        · rw [if_neg (by simp)] at kp
          have HKP := hid kp
          clear kp
          go_wp2_with fail
          refine HKP.out.mono ?_
          rintro e w8 ⟨hpar, hb8⟩
          obtain ⟨xj, yj, zj, xc, yc, zc, rfl, h1, h2, h3, h4, -, -⟩ := hpar
          have HX := hid (And.intro h1 (And.intro h2 (And.intro h3 h4)))
          have HB8 := hid (HBR.out.trans (hb8.mono HBR.out.size))
          have hqlt : q < wr.heap.size := (Array.getElem?_eq_some_iff.1 HQR.out).1
          have hq8 := (hb8.block q hqlt).trans HQR.out
          have hql8 := Nat.lt_of_lt_of_le hqlt hb8.size
          clear h1 h2 h3 h4 HKP hb8
          obtain ⟨SN, hSN⟩ : ∃ S : Sp, a = S := ⟨_, rfl⟩
          rw [hSN] at HX ⊢
          have HSN := hid hSN
          have HLN : Hid (SN.j.segs.length ≤ 1000 ∧ SN.c.segs.length ≤ 1000) := by have hf := HOA.out.few; show _ ∧ _; rw [← hSN]; omega
          clear hSN
          obtain ⟨nbS, btS, ⟨sjS, ljS, kjS⟩, ⟨scS, lcS, kcS⟩⟩ := SN
          dsimp only at HX ⊢
          have hbal : Below w8.heap.size w8 (w8.alloc (.cells #[.int .i64 nbS, .int .i64 btS, .slice xj yj zj, .int .i64 ljS, .int .u32 (kjS : Int), .slice xc yc zc, .int .i64 lcS, .int .u32 (kcS : Int)] 32)) := (Below.refl _ _).alloc (Nat.le_refl _) _
          have HB9 := hid (HB8.out.trans (hbal.mono HB8.out.size))
          have hq9 := (hbal.block q hql8).trans hq8
          have HXJ := hid (HX.out.2.2.1.below hbal)
          have HXC := hid (HX.out.2.2.2.below hbal)
          obtain ⟨e0, e1, e2, e3, e4, e5, e6, e7⟩ := cells8 hq9
          clear hbal hq9 hq8 hql8 hqlt
          go_wp2_with fail
          generalize w8.alloc (.cells #[.int .i64 nbS, .int .i64 btS, .slice xj yj zj, .int .i64 ljS, .int .u32 (kjS : Int), .slice xc yc zc, .int .i64 lcS, .int .u32 (kcS : Int)] 32) = w9 at HB9 HXJ HXC ⊢
          refine (same_any w9 nbS btS xj yj zj ljS kjS xc yc zc lcS kcS sjS scS nb bt aj nj cj lj kj ac nc cc lc kc sj sc HXJ.out HX.out.1 HXC.out HX.out.2.1 (by have := HLN.out; have := HX.out.1; omega) (by have := HLN.out; have := HX.out.2.1; omega) (HA.out.1.below HB9.out) HA.out.2.1 (HA.out.2.2.1.below HB9.out) HA.out.2.2.2.1 (by omega) (by omega) ⟨nbS, btS, ⟨sjS, ljS, kjS⟩, ⟨scS, lcS, kcS⟩⟩ a rfl HS.out).mono ?_
          rintro e w16 ⟨rfl, hb16⟩
          rw [show decide ((⟨nbS, btS, ⟨sjS, ljS, kjS⟩, ⟨scS, lcS, kcS⟩⟩ : Sp) = a) = true from decide_eq_true HSN.out.symm]
          have HB16 := hid (HB9.out.trans (hb16.mono HB9.out.size))
          clear hb16
          go_wp2_with fail
          go_ret
          exact ⟨rfl, HB16.out⟩
        · rw [if_pos rfl] at kp
          have HKP := hid kp
          clear kp
          go_wp2_with fail
          refine HKP.out.mono ?_
          rintro e w8 ⟨hpar, hb8⟩
          obtain rfl : e = _ := hpar
          have HB8 := hid (HBR.out.trans (hb8.mono HBR.out.size))
          clear hb8 HKP
          go_wp2_with fail
          go_ret
          exact ⟨rfl, HB8.out.alloc HB8.out.size _⟩
    · have hii : ¬ (i : Int) < 4 := by omega
      have kp := parse_any wr (some ⟨g, 0, none⟩) Y 256 cap HOY.out.row (by rw [HTN.out.len]; exact HLT.out.1) HCP.out 96
      rw [HTN.out.ends HOA.out (by rw [HS.out]; exact HA.out.2.2.2.2.1) (by rw [HS.out]; exact HA.out.2.2.2.2.2) (by omega) HOY.out.1] at kp
      cases c
      · rw [if_neg (by simp)] at kp
        have HKP := hid kp
        clear kp
        go_wp2_with fail
        refine HKP.out.mono ?_
        rintro e w8 ⟨hpar, hb8⟩
        obtain ⟨xj, yj, zj, xc, yc, zc, rfl, h1, h2, h3, h4, -, -⟩ := hpar
        have HX := hid (And.intro h1 (And.intro h2 (And.intro h3 h4)))
        have HB8 := hid (HBR.out.trans (hb8.mono HBR.out.size))
        have hqlt : q < wr.heap.size := (Array.getElem?_eq_some_iff.1 HQR.out).1
        have hq8 := (hb8.block q hqlt).trans HQR.out
        have hql8 := Nat.lt_of_lt_of_le hqlt hb8.size
        clear h1 h2 h3 h4 HKP hb8
        obtain ⟨SN, hSN⟩ : ∃ S : Sp, a = S := ⟨_, rfl⟩
        rw [hSN] at HX ⊢
        have HSN := hid hSN
        have HLN : Hid (SN.j.segs.length ≤ 1000 ∧ SN.c.segs.length ≤ 1000) := by have hf := HOA.out.few; show _ ∧ _; rw [← hSN]; omega
        clear hSN
        obtain ⟨nbS, btS, ⟨sjS, ljS, kjS⟩, ⟨scS, lcS, kcS⟩⟩ := SN
        dsimp only at HX ⊢
        have hbal : Below w8.heap.size w8 (w8.alloc (.cells #[.int .i64 nbS, .int .i64 btS, .slice xj yj zj, .int .i64 ljS, .int .u32 (kjS : Int), .slice xc yc zc, .int .i64 lcS, .int .u32 (kcS : Int)] 32)) := (Below.refl _ _).alloc (Nat.le_refl _) _
        have HB9 := hid (HB8.out.trans (hbal.mono HB8.out.size))
        have hq9 := (hbal.block q hql8).trans hq8
        have HXJ := hid (HX.out.2.2.1.below hbal)
        have HXC := hid (HX.out.2.2.2.below hbal)
        obtain ⟨e0, e1, e2, e3, e4, e5, e6, e7⟩ := cells8 hq9
        clear hbal hq9 hq8 hql8 hqlt
        go_wp2_with fail
        generalize w8.alloc (.cells #[.int .i64 nbS, .int .i64 btS, .slice xj yj zj, .int .i64 ljS, .int .u32 (kjS : Int), .slice xc yc zc, .int .i64 lcS, .int .u32 (kcS : Int)] 32) = w9 at HB9 HXJ HXC ⊢
        refine (same_any w9 nbS btS xj yj zj ljS kjS xc yc zc lcS kcS sjS scS nb bt aj nj cj lj kj ac nc cc lc kc sj sc HXJ.out HX.out.1 HXC.out HX.out.2.1 (by have := HLN.out; have := HX.out.1; omega) (by have := HLN.out; have := HX.out.2.1; omega) (HA.out.1.below HB9.out) HA.out.2.1 (HA.out.2.2.1.below HB9.out) HA.out.2.2.2.1 (by omega) (by omega) ⟨nbS, btS, ⟨sjS, ljS, kjS⟩, ⟨scS, lcS, kcS⟩⟩ a rfl HS.out).mono ?_
        rintro e w16 ⟨rfl, hb16⟩
        rw [show decide ((⟨nbS, btS, ⟨sjS, ljS, kjS⟩, ⟨scS, lcS, kcS⟩⟩ : Sp) = a) = true from decide_eq_true HSN.out.symm]
        have HB16 := hid (HB9.out.trans (hb16.mono HB9.out.size))
        clear hb16
        go_wp2_with fail
        go_ret
        exact ⟨rfl, HB16.out⟩
      · rw [if_pos rfl] at kp
        have HKP := hid kp
        clear kp
        go_wp2_with fail
        refine HKP.out.mono ?_
        rintro e w8 ⟨hpar, hb8⟩
        obtain rfl : e = _ := hpar
        have HB8 := hid (HBR.out.trans (hb8.mono HBR.out.size))
        clear hb8 HKP
        go_wp2_with fail
        go_ret
        exact ⟨rfl, HB8.out.alloc HB8.out.size _⟩
theorem bound0 {H : Type} {d0 d1 d2 : DataW H} (hk : Rows.uptoSmall H [d0, d1, d2] = true) : Rows.uptoBulk d0 ≤ 1048576 := by
  have h : Rows.uptoBulkAll [d0, d1, d2] ≤ 1048576 := of_decide_eq_true hk
  simp only [Rows.uptoBulkAll] at h
  omega
set_option linter.unusedVariables false
set_option maxRecDepth 100000 in
theorem superSees_contract (H : Type) (enc : TypeId × Value → H) (W : World) (base : Nat) (args : Array Value) (ds gs : List (DataW H)) (before : List MemPlace)
    (hval : ∀ (j : Nat) t v, Try.f7.params[j]? = some t → args[j]? = some v → Value.okWide Try.prog W .any base t v)
    (hW : DataW.Whole enc Try.prog Try.f7.params.toList Rows.superSeesSpec.vars false W args.toList ds gs before) (hk : Rows.uptoSmall H (ds ++ gs) = true) :
    Calls Try.prog 7 args W fun e W' => ∃ v, e = .returned v ∧ Rows.superSeesSpec.post enc Try.prog Try.f7 false true false false W args v W' := by
  have hW' := hW
  obtain ⟨p, q, hA0, hV, rfl, hfz, hnd⟩ := hW
  have hA : DataW.TrodAll enc Try.prog W 0 (fun _ => true) true Try.f7.params.toList args.toList ds p := hA0
  rw [Try.params7] at hA hval
  obtain ⟨v0, vs0, d0, ds0, p0, q0, hargs, rfl, rfl, h0, r0⟩ := trodAll_cons hA
  obtain ⟨v1, vs1, d1, ds1, p1, q1, rfl, rfl, rfl, h1, r1⟩ := trodAll_cons r0
  obtain ⟨v2, vs2, d2, ds2, p2, q2, rfl, rfl, rfl, h2, r2⟩ := trodAll_cons r1
  obtain ⟨rfl, rfl, rfl⟩ := trodAll_nil r2
  obtain rfl : args = #[v0, v1, v2] := by cases args; simp_all
  obtain ⟨rfl, rfl⟩ := trodVars_none hV
  have hbulk := bound0 (by simpa only [List.append_nil] using hk)
  obtain ⟨c0, rfl, _⟩ := okWide_struct Try.underlying27 (hval 0 27 v0 rfl rfl)
  have k0 := h0
  have lt0 : ∀ x ∈ p0, x.block < W.heap.size := by obtain ⟨m, hm⟩ := k0; exact DataW.trod_lt m _ _ _ hm
  obtain ⟨s0, hs0, hb0⟩ : ∃ s, SupIn W (.agg c0) s ∧ s.j.segs.length + s.c.segs.length ≤ Rows.uptoBulk d0 := by
    obtain ⟨fuel, hf⟩ := h0
    exact sup_bulk hf
  obtain ⟨a1, rfl, rfl, rfl, w1⟩ := open_int Try.underlying5 (hval 1 5 v1 rfl rfl) h1
  obtain ⟨a2, rfl, rfl, rfl, w2⟩ := open_int Try.underlying23 (hval 2 23 v2 rfl rfl) h2
  have hb1 := bounds_u8 w1
  have hb2 := bounds_u32 w2
  obtain ⟨n1, rfl⟩ : ∃ n : Nat, a1 = (n : Int) := ⟨a1.toNat, by omega⟩
  obtain ⟨n2, rfl⟩ : ∃ n : Nat, a2 = (n : Int) := ⟨a2.toNat, by omega⟩
  clear hA0
  refine (superSees_walk W c0 s0 hs0 (by omega) n1 n2 (by omega)).mono fun e W' ⟨he, bel⟩ => ?_
  subst he
  exact ⟨_, rfl, _, _, _, [], _, [], hW', trodAll_mk1 (shut_bool Try.underlying4 _), (trodAll_cons_mk (Below.trod laws_laid (by kernel_rfl) (of_decide_eq_true (by kernel_rfl)) k0 bel lt0) (trodAll_cons_mk (shut_int Try.underlying5 w1) (trodAll_cons_mk (shut_int Try.underlying23 w2) trodAll_mk0))), rfl, bel.frame _, fun h => by cases h⟩
set_option maxRecDepth 100000 in
theorem superSees_lifted (os : Os) (started : os.Started) (H : Type) (enc : TypeId × Value → H) (F : Stop.Interp) :
    ReturnsInHanded {} Try.checked os 7 .any ((Rows.OpenSpec.upto Rows.superSeesSpec).pre6 enc Try.prog Try.f7 Rows.superSeesUptoRow.domain false) (((Rows.OpenSpec.upto Rows.superSeesSpec).at F).post enc Try.prog Try.f7 false true false false) := by
  refine returnsInHanded_of_cond (C := Try.checked) (s := Rows.OpenSpec.upto Rows.superSeesSpec) (k := Rows.uptoSmall) rfl laws_own started (by kernel_rfl) Try.func7
    (OpenSpec.witness (enc := enc) (C := Try.checked) (s := Rows.OpenSpec.upto Rows.superSeesSpec) (k := Rows.uptoSmall) rfl false ⟨#[], #[.agg #[.int .i64 0, .int .i64 0, .slice none 0 0, .int .i64 0, .int .u32 0, .slice none 0 0, .int .i64 0, .int .u32 0], .int .u8 0, .int .u32 0], []⟩ 8 (by kernel_rfl) (by kernel_rfl) (by kernel_rfl)
      (x := ([.agg [.lit (.int .i64 0), .lit (.int .i64 0), .agg [.nil, .lit (.int .i64 0), .lit (.int .u32 0)], .agg [.nil, .lit (.int .i64 0), .lit (.int .u32 0)]], .lit (.int .u8 0), .lit (.int .u32 0)], [], [])) (by kernel_rfl) rfl (by kernel_rfl)) ?_
  intro W base args ds gs before hval hW _ hk _
  exact superSees_contract H enc W base args ds gs before hval hW hk
set_option maxRecDepth 100000 in
theorem superSees_over : Rows.superSeesUptoRow.holds Try.pinned (Rows.OpenSpec.upto Rows.superSeesSpec) :=
  OpenClaim.holds_of_cond 7 Try.f7 rfl rfl rfl rfl rfl rfl rfl ⟨rfl, rfl, rfl, rfl, rfl⟩ rfl rfl rfl rfl rfl (by kernel_rfl) Try.func7 (by kernel_rfl)
    (of_decide_eq_true (by kernel_rfl)) (by unfold Func.isWrapper; first | (rw [if_pos (by decide +kernel)]; kernel_rfl) | (rw [if_neg (by decide +kernel)]; exact ⟨rfl, rfl⟩))
    (fun os started H enc _ F => superSees_lifted os started H enc F)
theorem superSees_holds : Rows.SuperSeesUptoSaid := superSees_over
#print axioms superSees_holds
end Go.Proofs.Ytmfmhlhpleahpaa
