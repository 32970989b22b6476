/- SpacePlays: whatever is taken, claimed, given back: the least that is free, how many are; a copy goes its own way. No condition. -/
import Derived.Test.YtgnjhakakgkbaaaUp
namespace Go.Proofs.Ytgnjhakakgkbaaa
open Go.ChangeShapes Go.WideShapes Go.ChangeAt Go.RowKit
/-- The statement's own marks: the first k of t. -/
def selCells (k : Nat) (t : List Bool) : List Value := (t.take k).map Value.bool
structure SelAt (w : World) (g k : Nat) (t : List Bool) : Prop where
  blk : w.heap[g]? = some (.cells (selCells k t).toArray 4 (0, 0))
  len : t.length = 96
theorem SelAt.lt {w : World} {g k : Nat} {t : List Bool} (h : SelAt w g k t) : g < w.heap.size := (Array.getElem?_eq_some_iff.1 h.blk).1
theorem SelAt.c {w : World} {g k : Nat} {t : List Bool} (h : SelAt w g k t) (i : Nat) (hi : i < k) (hk : k ≤ 96) : w.cell? ⟨g, i, none⟩ = some (.bool (t.getD i false)) := by
  have hl := h.len
  rw [cell_of_row w g _ _ 4 (0, 0) h.blk, selCells, List.getElem?_toArray, List.getElem?_map, List.getElem?_take, if_pos hi, List.getElem?_eq_getElem (by omega), List.getD_eq_getElem?_getD, List.getElem?_eq_getElem (by omega)]
  rfl
theorem SelAt.fr {w : World} {g k : Nat} {t : List Bool} (h : SelAt w g k t) (i : Nat) : w.frozen? ⟨g, i, none⟩ = false := frozen_of_row w g i _ 4 h.blk
theorem SelAt.set {w : World} {g k : Nat} {t : List Bool} (h : SelAt w g k t) (i : Nat) (b : Bool) : SelAt (w.setCell ⟨g, i, none⟩ (.bool b)) g k (t.set i b) := by
  refine ⟨?_, by rw [List.length_set, h.len]⟩
  rw [heap_setCell_same _ _ _ _ _ _ h.blk]
  congr 2
  rw [selCells, selCells, List.setIfInBounds_toArray, ← List.map_set, List.take_set]
theorem SelAt.other {w w' : World} {g k q : Nat} {t : List Bool} (h : SelAt w g k t) (ho : Only q none w w') (hne : g ≠ q) : SelAt w' g k t := ⟨(ho.block g h.lt hne (by simp)).trans h.blk, h.len⟩
theorem SelAt.below {w w' : World} {g k : Nat} {t : List Bool} (h : SelAt w g k t) (hb : Below w.heap.size w w') : SelAt w' g k t := ⟨(hb.block g h.lt).trans h.blk, h.len⟩
theorem SelAt.drewN {w : World} {g k : Nat} {t : List Bool} (h : SelAt w g k t) (n : Nat) : SelAt (w.drewN n) g k t := ⟨h.blk, h.len⟩
theorem info4 : (Try.prog.info? 4).map (fun i => (i.zero, i.size, i.bytes)) = some (some (.bool false), 1, 1) := by kernel_rfl
theorem z96_some (j : Nat) (hj : j < 96) : z96[j]? = some false := by rw [z96, List.getElem?_replicate, if_pos hj]
theorem made_sel (k : Nat) (hk : k ≤ 96) : madeCells (Value.bool false).cells k = (selCells k z96).toArray := by
  apply Array.ext_getElem?
  intro j
  by_cases hj : j < k
  · have h2 : (selCells k z96).toArray[j]? = some (.bool false) := by rw [List.getElem?_toArray, selCells, List.getElem?_map, List.getElem?_take, if_pos hj, z96_some j (by omega)]; rfl
    rw [h2, madeCells, Array.getElem?_map, show (Array.range k)[j]? = some j by simp [hj]]
    simp [Value.cells, Nat.mod_one]
  · rw [Array.getElem?_eq_none (by rw [size_madeCells]; omega), Array.getElem?_eq_none (by simp [selCells]; omega)]
theorem make_sel (k : Nat) (hk : k ≤ 96) (w : World) : (Instr.makeSlice 26 (.int .i64 (k : Int)) (.int .i64 (k : Int))).run Try.prog w = .ok (.slice (some ⟨w.heap.size, 0, none⟩) k k) (w.alloc (.cells (selCells k z96).toArray 4)) := by
  obtain ⟨i, hi, hz⟩ := Option.map_eq_some_iff.1 info4
  simp only [Prod.mk.injEq] at hz
  have hr := run_make (P := Try.prog) w 26 4 i _ Try.underlying26 hi hz.1 .i64 .i64 k k (by omega) (Int.le_refl _) (by rw [hz.2.2]; omega) (by omega)
  simp only [Int.toNat_natCast, hz.2.1, Nat.mul_one, made_sel k hk] at hr
  exact hr
/-- Among those from m on the least free one is z (-1: none). -/
def Lst (t : List Bool) (k m : Nat) (z : Int) : Prop :=
  (z = -1 ∧ ∀ i, m ≤ i → i < k → t.getD i false = true) ∨ ∃ p : Nat, z = (p : Int) ∧ m ≤ p ∧ p < k ∧ t.getD p false = false ∧ ∀ i, m ≤ i → i < p → t.getD i false = true
theorem lst_end (t : List Bool) (k : Nat) : Lst t k k (-1) := .inl ⟨rfl, fun i h1 h2 => by omega⟩
theorem lst_on {t : List Bool} {k m : Nat} {z : Int} (h : Lst t k (m + 1) z) (hb : t.getD m false = true) : Lst t k m z := by
  rcases h with ⟨hz, h⟩ | ⟨p, hz, h1, h2, h3, h4⟩
  · refine .inl ⟨hz, fun i h1 h2 => ?_⟩
    by_cases e : i = m
    · rw [e]; exact hb
    · exact h i (by omega) h2
  · refine .inr ⟨p, hz, by omega, h2, h3, fun i h5 h6 => ?_⟩
    by_cases e : i = m
    · rw [e]; exact hb
    · exact h4 i (by omega) h6
theorem lst_free {t : List Bool} {k m : Nat} (hm : m < k) (hb : t.getD m false = false) : Lst t k m (m : Int) := .inr ⟨m, rfl, Nat.le_refl _, hm, hb, fun i h1 h2 => by omega⟩
theorem lst_zero {t : List Bool} {k : Nat} {z : Int} (h : Lst t k 0 z) : (z = -1 ∧ Full t k) ∨ ∃ p : Nat, z = (p : Int) ∧ Least t k p := by
  rcases h with ⟨hz, h⟩ | ⟨p, hz, _, h2, h3, h4⟩
  · exact .inl ⟨hz, fun j hj => h j (by omega) hj⟩
  · exact .inr ⟨p, hz, h2, h3, fun i hi => h4 i (by omega) hi⟩
theorem least_one {t : List Bool} {k p p' : Nat} (h : Least t k p) (h' : Least t k p') : p' = p := by
  rcases Nat.lt_trichotomy p' p with e | e | e
  · have := h.2.2 p' e
    rw [h'.2.1] at this
    cases this
  · exact e
  · have := h'.2.2 p e
    rw [h.2.1] at this
    cases this
theorem take_least {w : World} {q k p : Nat} {t : List Bool} (h : SpAt w q k t) (hl : Least t k p) : Calls Try.prog 11 #[.pointer (some ⟨q, 0, none⟩)] w fun e w' =>
    e = .returned (.tuple #[.int .i64 (p : Int), .bool true]) ∧ SpAt w' q k (t.set p true) ∧ Only q none w w' := by
  refine (take_any h).mono ?_
  rintro e w' ⟨⟨i, rfl, hl', hs⟩ | ⟨rfl, hf, hs⟩, ho⟩
  · obtain rfl := least_one hl hl'
    exact ⟨rfl, hs, ho⟩
  · exact (full_not_least hf hl).elim
theorem take_full {w : World} {q k : Nat} {t : List Bool} (h : SpAt w q k t) (hf : Full t k) : Calls Try.prog 11 #[.pointer (some ⟨q, 0, none⟩)] w fun e w' =>
    e = .returned (.tuple #[.int .i64 0, .bool false]) ∧ SpAt w' q k t ∧ Only q none w w' := by
  refine (take_any h).mono ?_
  rintro e w' ⟨⟨i, rfl, hl', hs⟩ | ⟨rfl, hf', hs⟩, ho⟩
  · exact (full_not_least hf hl').elim
  · exact ⟨rfl, hs, ho⟩
structure DeedAt (w : World) (d : Nat) (y z : Int) : Prop where
  blk : w.heap[d]? = some (.cells #[.int .i64 y, .int .i64 z] 28 (0, 0))
theorem DeedAt.lt {w : World} {d : Nat} {y z : Int} (h : DeedAt w d y z) : d < w.heap.size := (Array.getElem?_eq_some_iff.1 h.blk).1
theorem DeedAt.c {w : World} {d : Nat} {y z : Int} (h : DeedAt w d y z) : w.cell? ⟨d, 0, none⟩ = some (.int .i64 y) ∧ w.cell? ⟨d, 1, none⟩ = some (.int .i64 z) := by
  constructor <;> rw [cell_of_row w d _ _ 28 (0, 0) h.blk] <;> rfl
theorem DeedAt.other {w w' : World} {d q : Nat} {y z : Int} (h : DeedAt w d y z) (ho : Only q none w w') (hne : d ≠ q) : DeedAt w' d y z := ⟨(ho.block d h.lt hne (by simp)).trans h.blk⟩
theorem DeedAt.below {w w' : World} {d : Nat} {y z : Int} (h : DeedAt w d y z) (hb : Below w.heap.size w w') : DeedAt w' d y z := ⟨(hb.block d h.lt).trans h.blk⟩
set_option maxRecDepth 20000 in
set_option maxHeartbeats 4000000 in
theorem spacePlays_walk (w : World) (a0 : Int) (_w0 : (Lit.int .i64 a0).wf = true) (a1 : Option Addr) (len cap : Nat) (l : List (Int × Int)) (hr : DeedRow w a1 l) (hl : l.length = len) :
    Calls Try.prog 3 #[.int .i64 a0, .slice a1 len cap] w fun e w' => e = .returned (.bool true) ∧ Below w.heap.size w w' := by
  obtain ⟨k, hK, hk⟩ : ∃ k : Nat, (k : Int) = max 0 (min a0 96) ∧ k ≤ 96 := ⟨(max 0 (min a0 96)).toNat, by omega, by omega⟩
  have HN := fun w => new_any w a0 k hK
  have HR := hid hr
  have HL := hid hl
  have HK := hid hK
  obtain ⟨M, hM, hM2⟩ : ∃ M : Int, (if a0 < 0 then 0 else a0) = M ∧ (if 96 < M then 96 else M) = (k : Int) := by
    by_cases h : a0 < 0
    · exact ⟨0, by rw [if_pos h], by rw [if_neg (by omega)]; omega⟩
    · refine ⟨a0, by rw [if_neg h], ?_⟩
      by_cases h2 : 96 < a0
      · rw [if_pos h2]; omega
      · rw [if_neg h2]; omega
  clear hr hl hK _w0
  go_enter Try.func3, Try.ntmps3
  go_wp2_with fail
  refine (awake_any _).mono ?_
  rintro e w1 ⟨rfl, hb⟩
  have HB := hid hb
  clear hb
  by_cases hlen : len ≤ 300
  · have hlen' : ¬ (300 : Int) < (len : Int) := by omega
    go_wp2_with fail
    refine (HN _).mono ?_
    rintro e w2 ⟨q, rfl, hs, hb, hq⟩
    have HB2 := hid (HB.out.trans (hb.mono HB.out.size))
    have HQ := hid (Nat.le_trans HB.out.size hq)
    have HS := hid hs
    clear hs hb hq HN HB hM hM2
    have hmk := make_sel k hk
    have hba : Below w2.heap.size w2 (w2.alloc (.cells (selCells k z96).toArray 4)) := (Below.refl _ w2).alloc (Nat.le_refl _) _
    have HB3 := hid (HB2.out.trans (hba.mono HB2.out.size))
    have HS3 := hid (HS.out.below hba)
    have HO3 : Hid (SelAt (w2.alloc (.cells (selCells k z96).toArray 4)) w2.heap.size k z96) := ⟨heap_alloc_new w2 _, z96_len⟩
    have HNE : Hid (q ≠ w2.heap.size) := by have := HS.out.lt; show q ≠ _; omega
    have HG : Hid (w.heap.size ≤ w2.heap.size) := HB2.out.size
    clear hba
    go_wp2_with fail
    generalize w2.alloc (.cells (selCells k z96).toArray 4) = w3 at HB3 HS3 HO3 ⊢
    generalize w2.heap.size = g at HNE HG HO3 ⊢
    clear HS HB2 hmk
    go_loopg [8] len (fun gk vi wr => ∃ i : Nat, ∃ t, i + gk = len ∧ vi = .int .i64 (i : Int) ∧ SpAt wr q k t ∧ SelAt wr g k t ∧ Below w.heap.size w wr)
    case atStart => exact ⟨0, z96, by omega, rfl, HS3.out, HO3.out, HB3.out⟩
    case round =>
      obtain ⟨i, t, hi, rfl, hsi, hoi, hbi⟩ := hrel
      have HSi := hid hsi
      have HOi := hid hoi
      have HBi := hid hbi
      have hfl := nfree_le t k
      clear hsi hoi hbi HS3 HO3 HB3
      obtain ⟨G, hG⟩ : ∃ G, G = gk := ⟨_, rfl⟩
      subst hG
      by_cases hlt : i < len
      · obtain ⟨bb, off, rfl, hbb, hcell⟩ : ∃ b off, a1 = some ⟨b, off, none⟩ ∧ b < w.heap.size ∧ ∀ i x, l[i]? = some x → w.cell? ⟨b, off + i * 2, none⟩ = some (.int .i64 x.1) ∧ w.cell? ⟨b, off + i * 2 + 1, none⟩ = some (.int .i64 x.2) ∧ (Lit.int .i64 x.2).wf = true := by
          rcases HR.out with h | h
          · have := HL.out
            rw [h] at this
            simp at this
            omega
          · exact h
        obtain ⟨x, hx⟩ : ∃ x, l[i]? = some x := ⟨_, List.getElem?_eq_getElem (by rw [HL.out]; exact hlt)⟩
        obtain ⟨hc0, hc1, hwf⟩ := hcell i x hx
        have hcI0 := (HBi.out.cell (p := ⟨bb, off + i * 2, none⟩) hbb).trans hc0
        have hcI1 := (HBi.out.cell (p := ⟨bb, off + i * 2 + 1, none⟩) hbb).trans hc1
        have hzb := bounds_i64 hwf
        obtain ⟨y, z⟩ := x
        dsimp only at hcI0 hcI1 hzb
        have hlt' : (i : Int) < (len : Int) := by omega
        clear hcell hx hbb hc0 hc1 hwf
        by_cases hz0 : 0 ≤ z
        · by_cases hzk : z < (k : Int)
          · obtain ⟨c, rfl⟩ : ∃ c : Nat, z = (c : Int) := ⟨z.toNat, by omega⟩
            have hck : c < k := by omega
            have hmn : (if (k : Int) - 1 < (c : Int) then (k : Int) - 1 else (c : Int)) = (c : Int) := if_neg (by omega)
            have hba : Below wr.heap.size wr (wr.alloc (.cells #[.int .i64 y, .int .i64 c] 28)) := (Below.refl _ wr).alloc (Nat.le_refl _) _
            have HB4 := hid (HBi.out.trans (hba.mono HBi.out.size))
            have HS4 := hid (HSi.out.below hba)
            have HO4 := hid (HOi.out.below hba)
            have HD4 : Hid (DeedAt (wr.alloc (.cells #[.int .i64 y, .int .i64 c] 28)) wr.heap.size y c) := ⟨heap_alloc_new wr _⟩
            have HDQ : Hid (wr.heap.size ≠ q) := by have := HSi.out.lt; show _ ≠ _; omega
            have HDG : Hid (wr.heap.size ≠ g) := by have := HOi.out.lt; show _ ≠ _; omega
            clear hba
            go_wp2_with fail
            generalize wr.alloc (.cells #[.int .i64 y, .int .i64 c] 28) = v at HS4 HO4 HB4 HD4 ⊢
            generalize wr.heap.size = d at HD4 HDQ HDG ⊢
            clear HSi HOi HBi hcI0 hcI1
            go_loopg [11, 12, 13] k (fun gk vl vf vj wr => ∃ (m f : Nat) (zl : Int), m = gk ∧ vj = .int .i64 ((m : Int) - 1) ∧ vf = .int .i64 (f : Int) ∧ f + nfree t m = nfree t k ∧ vl = .int .i64 zl ∧ Lst t k m zl ∧ m ≤ k ∧ wr = v)
            case atStart => exact ⟨k, 0, -1, rfl, rfl, rfl, by omega, rfl, lst_end t k, Nat.le_refl _, rfl⟩
            case round =>
              obtain ⟨m, f, zl, rfl, rfl, rfl, hf, rfl, hlst, hmk, rfl⟩ := hrel
              have HLs := hid hlst
              have HFm := hid hf
              have hfk : f ≤ k := by omega
              clear hlst hf
              rcases m with _ | m
              · have hm1 : ((0 : Nat) : Int) - 1 = -1 := rfl
                rw [hm1]
                clear hm1
                have HF0 : Hid (((nfree t k : Nat) : Int) = (f : Int)) := by
                  have := HFm.out
                  simp only [nfree] at this
                  show _ = _
                  omega
                obtain ⟨hd0, hd1⟩ := HD4.out.c
                clear HFm
                by_cases hy2 : y ≤ 2
                · as_aux_lemma =>
                    go_wp2_with fail
                    refine (copy_any HS4.out).mono ?_
                    rintro e w5 ⟨c5, rfl, hcc, hb5, hq5⟩
                    have HB5 := hid (HB4.out.trans (hb5.mono HB4.out.size))
                    have HS5 := hid (HS4.out.below hb5)
                    have HO5 := hid (HO4.out.below hb5)
                    have HC5 := hid hcc
                    have HCQ : Hid (c5 ≠ q) := by have := HS4.out.lt; show _ ≠ _; omega
                    have HCG : Hid (c5 ≠ g) := by have := HO4.out.lt; show _ ≠ _; omega
                    have HCB : Hid (w.heap.size ≤ c5) := Nat.le_trans HB4.out.size hq5
                    clear hcc hb5 hq5 HS4 HO4 HB4 HD4 hd0 hd1
                    rcases lst_zero HLs.out with ⟨rfl, hfull⟩ | ⟨p, rfl, hleast⟩
                    · have HFu := hid hfull
                      clear hfull HLs
                      go_wp2_with fail
                      refine (take_full HS5.out HFu.out).mono ?_
                      rintro e w6 ⟨rfl, hs6, ho6⟩
                      have HS6 := hid hs6
                      have HB6 := hid (HB5.out.trans (ho6.low HQ.out HB5.out.size))
                      have HO6 := hid (HO5.out.other ho6 HNE.out.symm)
                      have HC6 := hid (HC5.out.other ho6 HCQ.out)
                      clear hs6 ho6 HS5 HB5 HO5 HC5
                      go_wp2_with fail
                      refine (take_full HC6.out HFu.out).mono ?_
                      rintro e wx ⟨rfl, hs7, ho7⟩
                      have HBx := hid (HB6.out.trans (ho7.low HCB.out HB6.out.size))
                      have HOx := hid (HO6.out.other ho7 HCG.out.symm)
                      have HSx := hid (HS6.out.other ho7 HCQ.out.symm)
                      have HFx := HF0
                      clear hs7 ho7 HS6 HB6 HO6 HC6
                      go_wp2_with fail
                      refine (free_any HSx.out).mono ?_
                      rintro e w9 ⟨rfl, n9, rfl⟩
                      rw [HFx.out]
                      have HS9 := hid (HSx.out.drewN n9)
                      have HO9 := hid (HOx.out.drewN n9)
                      have HB9 := hid (Below.drewN' HBx.out n9)
                      generalize wx.drewN n9 = w9 at HS9 HO9 HB9 ⊢
                      clear HSx HOx HBx HFx
                      go_wp2_with fail
                      go_roundg (G - 1)
                      case measure => omega
                      case rel => exact ⟨i + 1, _, by omega, by go_num, HS9.out, HO9.out, HB9.out⟩
                    · have HLe := hid hleast
                      have hpk := hleast.1
                      have HF1 : Hid (((nfree (t.set p true) k : Nat) : Int) = (f : Int) - 1) := by
                        have h1 := nfree_take t p (by rw [HS5.out.len]; omega) hleast.2.1 k hleast.1
                        have := HF0.out
                        show _ = _
                        omega
                      have hf1 : 0 < f := by
                        have h1 := nfree_pos t k p hleast.1 hleast.2.1
                        have := HF0.out
                        omega
                      clear hleast HLs
                      go_wp2_with fail
                      refine (take_least HS5.out HLe.out).mono ?_
                      rintro e w6 ⟨rfl, hs6, ho6⟩
                      have HS6 := hid hs6
                      have HB6 := hid (HB5.out.trans (ho6.low HQ.out HB5.out.size))
                      have HO6 := hid (HO5.out.other ho6 HNE.out.symm)
                      have HC6 := hid (HC5.out.other ho6 HCQ.out)
                      clear hs6 ho6 HS5 HB5 HO5 HC5
                      go_wp2_with fail
                      refine (take_least HC6.out HLe.out).mono ?_
                      rintro e w7 ⟨rfl, hs7, ho7⟩
                      have HB7 := hid (HB6.out.trans (ho7.low HCB.out HB6.out.size))
                      have HO7 := hid (HO6.out.other ho7 HCG.out.symm)
                      have HS7 := hid (HS6.out.other ho7 HCQ.out.symm)
                      clear hs7 ho7 HS6 HB6 HO6 HC6
                      have hon := HO7.out.c p hpk hk
                      have hfr := HO7.out.fr p
                      have HSx := hid (HS7.out.other (only_setCell w7 g p none (.bool true)) HNE.out)
                      have HOx := hid (HO7.out.set p true)
                      have HBx := hid (HB7.out.trans ((only_setCell w7 g p none (.bool true)).low HG.out HB7.out.size))
                      have HFx := HF1
                      clear HS7 HO7 HB7 HF1 HF0
                      go_wp2_with fail
                      generalize w7.setCell ⟨g, p, none⟩ (.bool true) = wx at HSx HOx HBx ⊢
                      refine (free_any HSx.out).mono ?_
                      rintro e w9 ⟨rfl, n9, rfl⟩
                      rw [HFx.out]
                      have HS9 := hid (HSx.out.drewN n9)
                      have HO9 := hid (HOx.out.drewN n9)
                      have HB9 := hid (Below.drewN' HBx.out n9)
                      generalize wx.drewN n9 = w9 at HS9 HO9 HB9 ⊢
                      clear HSx HOx HBx HFx
                      go_wp2_with fail
                      go_roundg (G - 1)
                      case measure => omega
                      case rel => exact ⟨i + 1, _, by omega, by go_num, HS9.out, HO9.out, HB9.out⟩
                · by_cases hy3 : y = 3
                  · subst hy3
                    as_aux_lemma =>
                      go_wp2_with fail
                      refine (claim_in HS4.out c hck).mono ?_
                      rintro e w5 ⟨rfl, hs5, ho5⟩
                      have HB5 := hid (HB4.out.trans (ho5.low HQ.out HB4.out.size))
                      have ho := HO4.out.other ho5 HNE.out.symm
                      have hon := ho.c c hck hk
                      have hfr := ho.fr c
                      obtain ⟨he0, he1⟩ := (HD4.out.other ho5 HDQ.out).c
                      have HO5 := hid ho
                      clear ho ho5 HS4 HO4 HB4 HD4 hd0 hd1
                      cases hb : t.getD c false
                      · rw [hb] at hs5 hon
                        rw [if_neg (by simp)] at hs5
                        have HF1 : Hid (((nfree (t.set c true) k : Nat) : Int) = (f : Int) - 1) := by
                          have h1 := nfree_take t c (by rw [HO5.out.len]; omega) hb k hck
                          have := HF0.out
                          show _ = _
                          omega
                        have hf1 : 0 < f := by
                          have h1 := nfree_pos t k c hck hb
                          have := HF0.out
                          omega
                        have HSx := hid (hs5.other (only_setCell w5 g c none (.bool true)) HNE.out)
                        have HOx := hid (HO5.out.set c true)
                        have HBx := hid (HB5.out.trans ((only_setCell w5 g c none (.bool true)).low HG.out HB5.out.size))
                        have HFx := HF1
                        clear hs5 HO5 HB5 HF1 hb HF0
                        go_wp2_with fail
                        generalize w5.setCell ⟨g, c, none⟩ (.bool true) = wx at HSx HOx HBx ⊢
                        refine (free_any HSx.out).mono ?_
                        rintro e w9 ⟨rfl, n9, rfl⟩
                        rw [HFx.out]
                        have HS9 := hid (HSx.out.drewN n9)
                        have HO9 := hid (HOx.out.drewN n9)
                        have HB9 := hid (Below.drewN' HBx.out n9)
                        generalize wx.drewN n9 = w9 at HS9 HO9 HB9 ⊢
                        clear HSx HOx HBx HFx
                        go_wp2_with fail
                        go_roundg (G - 1)
                        case measure => omega
                        case rel => exact ⟨i + 1, _, by omega, by go_num, HS9.out, HO9.out, HB9.out⟩
                      · rw [hb] at hs5 hon
                        rw [if_pos rfl] at hs5
                        have HSx := hid hs5
                        have HOx := HO5
                        have HBx := HB5
                        have HFx := HF0
                        clear hs5 HO5 HB5 hb
                        go_wp2_with fail
                        refine (free_any HSx.out).mono ?_
                        rintro e w9 ⟨rfl, n9, rfl⟩
                        rw [HFx.out]
                        have HS9 := hid (HSx.out.drewN n9)
                        have HO9 := hid (HOx.out.drewN n9)
                        have HB9 := hid (Below.drewN' HBx.out n9)
                        generalize w5.drewN n9 = w9 at HS9 HO9 HB9 ⊢
                        clear HSx HOx HBx HFx
                        go_wp2_with fail
                        go_roundg (G - 1)
                        case measure => omega
                        case rel => exact ⟨i + 1, _, by omega, by go_num, HS9.out, HO9.out, HB9.out⟩
                  · have hy4 : (y == 3) = false := by simpa using hy3
                    as_aux_lemma =>
                      go_wp2_with fail
                      refine (give_in HS4.out c hck).mono ?_
                      rintro e w5 ⟨rfl, hs5, ho5⟩
                      have HB5 := hid (HB4.out.trans (ho5.low HQ.out HB4.out.size))
                      have ho := HO4.out.other ho5 HNE.out.symm
                      have hon := ho.c c hck hk
                      have hfr := ho.fr c
                      obtain ⟨he0, he1⟩ := (HD4.out.other ho5 HDQ.out).c
                      have HO5 := hid ho
                      clear ho ho5 HS4 HO4 HB4 HD4 hd0 hd1
                      cases hb : t.getD c false
                      · rw [hb] at hs5 hon
                        rw [if_neg (by simp)] at hs5
                        have HSx := hid hs5
                        have HOx := HO5
                        have HBx := HB5
                        have HFx := HF0
                        clear hs5 HO5 HB5 hb
                        go_wp2_with fail
                        refine (free_any HSx.out).mono ?_
                        rintro e w9 ⟨rfl, n9, rfl⟩
                        rw [HFx.out]
                        have HS9 := hid (HSx.out.drewN n9)
                        have HO9 := hid (HOx.out.drewN n9)
                        have HB9 := hid (Below.drewN' HBx.out n9)
                        generalize w5.drewN n9 = w9 at HS9 HO9 HB9 ⊢
                        clear HSx HOx HBx HFx
                        go_wp2_with fail
                        go_roundg (G - 1)
                        case measure => omega
                        case rel => exact ⟨i + 1, _, by omega, by go_num, HS9.out, HO9.out, HB9.out⟩
                      · rw [hb] at hs5 hon
                        rw [if_pos rfl] at hs5
                        have HF1 : Hid (((nfree (t.set c false) k : Nat) : Int) = (f : Int) + 1) := by
                          have h1 := nfree_give t c (by rw [HO5.out.len]; omega) hb k hck
                          have := HF0.out
                          show _ = _
                          omega
                        have HSx := hid (hs5.other (only_setCell w5 g c none (.bool false)) HNE.out)
                        have HOx := hid (HO5.out.set c false)
                        have HBx := hid (HB5.out.trans ((only_setCell w5 g c none (.bool false)).low HG.out HB5.out.size))
                        have HFx := HF1
                        clear hs5 HO5 HB5 HF1 hb HF0
                        go_wp2_with fail
                        generalize w5.setCell ⟨g, c, none⟩ (.bool false) = wx at HSx HOx HBx ⊢
                        refine (free_any HSx.out).mono ?_
                        rintro e w9 ⟨rfl, n9, rfl⟩
                        rw [HFx.out]
                        have HS9 := hid (HSx.out.drewN n9)
                        have HO9 := hid (HOx.out.drewN n9)
                        have HB9 := hid (Below.drewN' HBx.out n9)
                        generalize wx.drewN n9 = w9 at HS9 HO9 HB9 ⊢
                        clear HSx HOx HBx HFx
                        go_wp2_with fail
                        go_roundg (G - 1)
                        case measure => omega
                        case rel => exact ⟨i + 1, _, by omega, by go_num, HS9.out, HO9.out, HB9.out⟩
              · have hm1 : ((m + 1 : Nat) : Int) - 1 = (m : Int) := by omega
                rw [hm1]
                clear hm1
                have hc := HO4.out.c m (by omega) hk
                cases hb : t.getD m false
                · rw [hb] at hc
                  have HBb := hid hb
                  clear hb
                  go_wp2_with fail
                  go_roundg m
                  case measure => omega
                  case rel => exact ⟨m, f + 1, (m : Int), rfl, rfl, by go_num, by have := HFm.out; simp only [nfree, HBb.out] at this; simp at this; omega, rfl, lst_free (by omega) HBb.out, by omega, rfl⟩
                · rw [hb] at hc
                  have HBb := hid hb
                  clear hb
                  go_wp2_with fail
                  go_roundg m
                  case measure => omega
                  case rel => exact ⟨m, f, zl, rfl, rfl, rfl, by have := HFm.out; simp only [nfree, HBb.out] at this; simp at this; omega, rfl, lst_on HLs.out HBb.out, by omega, rfl⟩
          · have hba : Below wr.heap.size wr (wr.alloc (.cells #[.int .i64 y, .int .i64 z] 28)) := (Below.refl _ wr).alloc (Nat.le_refl _) _
            have HB4 := hid (HBi.out.trans (hba.mono HBi.out.size))
            have HS4 := hid (HSi.out.below hba)
            have HO4 := hid (HOi.out.below hba)
            have HD4 : Hid (DeedAt (wr.alloc (.cells #[.int .i64 y, .int .i64 z] 28)) wr.heap.size y z) := ⟨heap_alloc_new wr _⟩
            have HDQ : Hid (wr.heap.size ≠ q) := by have := HSi.out.lt; show _ ≠ _; omega
            have HDG : Hid (wr.heap.size ≠ g) := by have := HOi.out.lt; show _ ≠ _; omega
            clear hba
            go_wp2_with fail
            generalize wr.alloc (.cells #[.int .i64 y, .int .i64 z] 28) = v at HS4 HO4 HB4 HD4 ⊢
            generalize wr.heap.size = d at HD4 HDQ HDG ⊢
            clear HSi HOi HBi hcI0 hcI1
            go_loopg [11, 12, 13] k (fun gk vl vf vj wr => ∃ (m f : Nat) (zl : Int), m = gk ∧ vj = .int .i64 ((m : Int) - 1) ∧ vf = .int .i64 (f : Int) ∧ f + nfree t m = nfree t k ∧ vl = .int .i64 zl ∧ Lst t k m zl ∧ m ≤ k ∧ wr = v)
            case atStart => exact ⟨k, 0, -1, rfl, rfl, rfl, by omega, rfl, lst_end t k, Nat.le_refl _, rfl⟩
            case round =>
              obtain ⟨m, f, zl, rfl, rfl, rfl, hf, rfl, hlst, hmk, rfl⟩ := hrel
              have HLs := hid hlst
              have HFm := hid hf
              have hfk : f ≤ k := by omega
              clear hlst hf
              rcases m with _ | m
              · have hm1 : ((0 : Nat) : Int) - 1 = -1 := rfl
                rw [hm1]
                clear hm1
                have HF0 : Hid (((nfree t k : Nat) : Int) = (f : Int)) := by
                  have := HFm.out
                  simp only [nfree] at this
                  show _ = _
                  omega
                obtain ⟨hd0, hd1⟩ := HD4.out.c
                clear HFm
                by_cases hy2 : y ≤ 2
                · as_aux_lemma =>
                    go_wp2_with fail
                    refine (copy_any HS4.out).mono ?_
                    rintro e w5 ⟨c5, rfl, hcc, hb5, hq5⟩
                    have HB5 := hid (HB4.out.trans (hb5.mono HB4.out.size))
                    have HS5 := hid (HS4.out.below hb5)
                    have HO5 := hid (HO4.out.below hb5)
                    have HC5 := hid hcc
                    have HCQ : Hid (c5 ≠ q) := by have := HS4.out.lt; show _ ≠ _; omega
                    have HCG : Hid (c5 ≠ g) := by have := HO4.out.lt; show _ ≠ _; omega
                    have HCB : Hid (w.heap.size ≤ c5) := Nat.le_trans HB4.out.size hq5
                    clear hcc hb5 hq5 HS4 HO4 HB4 HD4 hd0 hd1
                    rcases lst_zero HLs.out with ⟨rfl, hfull⟩ | ⟨p, rfl, hleast⟩
                    · have HFu := hid hfull
                      clear hfull HLs
                      go_wp2_with fail
                      refine (take_full HS5.out HFu.out).mono ?_
                      rintro e w6 ⟨rfl, hs6, ho6⟩
                      have HS6 := hid hs6
                      have HB6 := hid (HB5.out.trans (ho6.low HQ.out HB5.out.size))
                      have HO6 := hid (HO5.out.other ho6 HNE.out.symm)
                      have HC6 := hid (HC5.out.other ho6 HCQ.out)
                      clear hs6 ho6 HS5 HB5 HO5 HC5
                      go_wp2_with fail
                      refine (take_full HC6.out HFu.out).mono ?_
                      rintro e wx ⟨rfl, hs7, ho7⟩
                      have HBx := hid (HB6.out.trans (ho7.low HCB.out HB6.out.size))
                      have HOx := hid (HO6.out.other ho7 HCG.out.symm)
                      have HSx := hid (HS6.out.other ho7 HCQ.out.symm)
                      have HFx := HF0
                      clear hs7 ho7 HS6 HB6 HO6 HC6
                      go_wp2_with fail
                      refine (free_any HSx.out).mono ?_
                      rintro e w9 ⟨rfl, n9, rfl⟩
                      rw [HFx.out]
                      have HS9 := hid (HSx.out.drewN n9)
                      have HO9 := hid (HOx.out.drewN n9)
                      have HB9 := hid (Below.drewN' HBx.out n9)
                      generalize wx.drewN n9 = w9 at HS9 HO9 HB9 ⊢
                      clear HSx HOx HBx HFx
                      go_wp2_with fail
                      go_roundg (G - 1)
                      case measure => omega
                      case rel => exact ⟨i + 1, _, by omega, by go_num, HS9.out, HO9.out, HB9.out⟩
                    · have HLe := hid hleast
                      have hpk := hleast.1
                      have HF1 : Hid (((nfree (t.set p true) k : Nat) : Int) = (f : Int) - 1) := by
                        have h1 := nfree_take t p (by rw [HS5.out.len]; omega) hleast.2.1 k hleast.1
                        have := HF0.out
                        show _ = _
                        omega
                      have hf1 : 0 < f := by
                        have h1 := nfree_pos t k p hleast.1 hleast.2.1
                        have := HF0.out
                        omega
                      clear hleast HLs
                      go_wp2_with fail
                      refine (take_least HS5.out HLe.out).mono ?_
                      rintro e w6 ⟨rfl, hs6, ho6⟩
                      have HS6 := hid hs6
                      have HB6 := hid (HB5.out.trans (ho6.low HQ.out HB5.out.size))
                      have HO6 := hid (HO5.out.other ho6 HNE.out.symm)
                      have HC6 := hid (HC5.out.other ho6 HCQ.out)
                      clear hs6 ho6 HS5 HB5 HO5 HC5
                      go_wp2_with fail
                      refine (take_least HC6.out HLe.out).mono ?_
                      rintro e w7 ⟨rfl, hs7, ho7⟩
                      have HB7 := hid (HB6.out.trans (ho7.low HCB.out HB6.out.size))
                      have HO7 := hid (HO6.out.other ho7 HCG.out.symm)
                      have HS7 := hid (HS6.out.other ho7 HCQ.out.symm)
                      clear hs7 ho7 HS6 HB6 HO6 HC6
                      have hon := HO7.out.c p hpk hk
                      have hfr := HO7.out.fr p
                      have HSx := hid (HS7.out.other (only_setCell w7 g p none (.bool true)) HNE.out)
                      have HOx := hid (HO7.out.set p true)
                      have HBx := hid (HB7.out.trans ((only_setCell w7 g p none (.bool true)).low HG.out HB7.out.size))
                      have HFx := HF1
                      clear HS7 HO7 HB7 HF1 HF0
                      go_wp2_with fail
                      generalize w7.setCell ⟨g, p, none⟩ (.bool true) = wx at HSx HOx HBx ⊢
                      refine (free_any HSx.out).mono ?_
                      rintro e w9 ⟨rfl, n9, rfl⟩
                      rw [HFx.out]
                      have HS9 := hid (HSx.out.drewN n9)
                      have HO9 := hid (HOx.out.drewN n9)
                      have HB9 := hid (Below.drewN' HBx.out n9)
                      generalize wx.drewN n9 = w9 at HS9 HO9 HB9 ⊢
                      clear HSx HOx HBx HFx
                      go_wp2_with fail
                      go_roundg (G - 1)
                      case measure => omega
                      case rel => exact ⟨i + 1, _, by omega, by go_num, HS9.out, HO9.out, HB9.out⟩
                · by_cases hy3 : y = 3
                  · subst hy3
                    as_aux_lemma =>
                      go_wp2_with fail
                      refine (claim_no HS4.out z (by omega)).mono ?_
                      rintro e w5 ⟨rfl, rfl⟩
                      have HSx := HS4
                      have HOx := HO4
                      have HBx := HB4
                      have HFx := HF0
                      clear HS4 HO4 HB4 HF0
                      go_wp2_with fail
                      refine (free_any HSx.out).mono ?_
                      rintro e w9 ⟨rfl, n9, rfl⟩
                      rw [HFx.out]
                      have HS9 := hid (HSx.out.drewN n9)
                      have HO9 := hid (HOx.out.drewN n9)
                      have HB9 := hid (Below.drewN' HBx.out n9)
                      generalize w5.drewN n9 = w9 at HS9 HO9 HB9 ⊢
                      clear HSx HOx HBx HFx
                      go_wp2_with fail
                      go_roundg (G - 1)
                      case measure => omega
                      case rel => exact ⟨i + 1, _, by omega, by go_num, HS9.out, HO9.out, HB9.out⟩
                  · have hy4 : (y == 3) = false := by simpa using hy3
                    as_aux_lemma =>
                      go_wp2_with fail
                      refine (give_no HS4.out z (by omega)).mono ?_
                      rintro e w5 ⟨rfl, rfl⟩
                      have HSx := HS4
                      have HOx := HO4
                      have HBx := HB4
                      have HFx := HF0
                      clear HS4 HO4 HB4 HF0
                      go_wp2_with fail
                      refine (free_any HSx.out).mono ?_
                      rintro e w9 ⟨rfl, n9, rfl⟩
                      rw [HFx.out]
                      have HS9 := hid (HSx.out.drewN n9)
                      have HO9 := hid (HOx.out.drewN n9)
                      have HB9 := hid (Below.drewN' HBx.out n9)
                      generalize w5.drewN n9 = w9 at HS9 HO9 HB9 ⊢
                      clear HSx HOx HBx HFx
                      go_wp2_with fail
                      go_roundg (G - 1)
                      case measure => omega
                      case rel => exact ⟨i + 1, _, by omega, by go_num, HS9.out, HO9.out, HB9.out⟩
              · have hm1 : ((m + 1 : Nat) : Int) - 1 = (m : Int) := by omega
                rw [hm1]
                clear hm1
                have hc := HO4.out.c m (by omega) hk
                cases hb : t.getD m false
                · rw [hb] at hc
                  have HBb := hid hb
                  clear hb
                  go_wp2_with fail
                  go_roundg m
                  case measure => omega
                  case rel => exact ⟨m, f + 1, (m : Int), rfl, rfl, by go_num, by have := HFm.out; simp only [nfree, HBb.out] at this; simp at this; omega, rfl, lst_free (by omega) HBb.out, by omega, rfl⟩
                · rw [hb] at hc
                  have HBb := hid hb
                  clear hb
                  go_wp2_with fail
                  go_roundg m
                  case measure => omega
                  case rel => exact ⟨m, f, zl, rfl, rfl, rfl, by have := HFm.out; simp only [nfree, HBb.out] at this; simp at this; omega, rfl, lst_on HLs.out HBb.out, by omega, rfl⟩
        · have hba : Below wr.heap.size wr (wr.alloc (.cells #[.int .i64 y, .int .i64 z] 28)) := (Below.refl _ wr).alloc (Nat.le_refl _) _
          have HB4 := hid (HBi.out.trans (hba.mono HBi.out.size))
          have HS4 := hid (HSi.out.below hba)
          have HO4 := hid (HOi.out.below hba)
          have HD4 : Hid (DeedAt (wr.alloc (.cells #[.int .i64 y, .int .i64 z] 28)) wr.heap.size y z) := ⟨heap_alloc_new wr _⟩
          have HDQ : Hid (wr.heap.size ≠ q) := by have := HSi.out.lt; show _ ≠ _; omega
          have HDG : Hid (wr.heap.size ≠ g) := by have := HOi.out.lt; show _ ≠ _; omega
          clear hba
          go_wp2_with fail
          generalize wr.alloc (.cells #[.int .i64 y, .int .i64 z] 28) = v at HS4 HO4 HB4 HD4 ⊢
          generalize wr.heap.size = d at HD4 HDQ HDG ⊢
          clear HSi HOi HBi hcI0 hcI1
          go_loopg [11, 12, 13] k (fun gk vl vf vj wr => ∃ (m f : Nat) (zl : Int), m = gk ∧ vj = .int .i64 ((m : Int) - 1) ∧ vf = .int .i64 (f : Int) ∧ f + nfree t m = nfree t k ∧ vl = .int .i64 zl ∧ Lst t k m zl ∧ m ≤ k ∧ wr = v)
          case atStart => exact ⟨k, 0, -1, rfl, rfl, rfl, by omega, rfl, lst_end t k, Nat.le_refl _, rfl⟩
          case round =>
            obtain ⟨m, f, zl, rfl, rfl, rfl, hf, rfl, hlst, hmk, rfl⟩ := hrel
            have HLs := hid hlst
            have HFm := hid hf
            have hfk : f ≤ k := by omega
            clear hlst hf
            rcases m with _ | m
            · have hm1 : ((0 : Nat) : Int) - 1 = -1 := rfl
              rw [hm1]
              clear hm1
              have HF0 : Hid (((nfree t k : Nat) : Int) = (f : Int)) := by
                have := HFm.out
                simp only [nfree] at this
                show _ = _
                omega
              obtain ⟨hd0, hd1⟩ := HD4.out.c
              clear HFm
              by_cases hy2 : y ≤ 2
              · as_aux_lemma =>
                  go_wp2_with fail
                  refine (copy_any HS4.out).mono ?_
                  rintro e w5 ⟨c5, rfl, hcc, hb5, hq5⟩
                  have HB5 := hid (HB4.out.trans (hb5.mono HB4.out.size))
                  have HS5 := hid (HS4.out.below hb5)
                  have HO5 := hid (HO4.out.below hb5)
                  have HC5 := hid hcc
                  have HCQ : Hid (c5 ≠ q) := by have := HS4.out.lt; show _ ≠ _; omega
                  have HCG : Hid (c5 ≠ g) := by have := HO4.out.lt; show _ ≠ _; omega
                  have HCB : Hid (w.heap.size ≤ c5) := Nat.le_trans HB4.out.size hq5
                  clear hcc hb5 hq5 HS4 HO4 HB4 HD4 hd0 hd1
                  rcases lst_zero HLs.out with ⟨rfl, hfull⟩ | ⟨p, rfl, hleast⟩
                  · have HFu := hid hfull
                    clear hfull HLs
                    go_wp2_with fail
                    refine (take_full HS5.out HFu.out).mono ?_
                    rintro e w6 ⟨rfl, hs6, ho6⟩
                    have HS6 := hid hs6
                    have HB6 := hid (HB5.out.trans (ho6.low HQ.out HB5.out.size))
                    have HO6 := hid (HO5.out.other ho6 HNE.out.symm)
                    have HC6 := hid (HC5.out.other ho6 HCQ.out)
                    clear hs6 ho6 HS5 HB5 HO5 HC5
                    go_wp2_with fail
                    refine (take_full HC6.out HFu.out).mono ?_
                    rintro e wx ⟨rfl, hs7, ho7⟩
                    have HBx := hid (HB6.out.trans (ho7.low HCB.out HB6.out.size))
                    have HOx := hid (HO6.out.other ho7 HCG.out.symm)
                    have HSx := hid (HS6.out.other ho7 HCQ.out.symm)
                    have HFx := HF0
                    clear hs7 ho7 HS6 HB6 HO6 HC6
                    go_wp2_with fail
                    refine (free_any HSx.out).mono ?_
                    rintro e w9 ⟨rfl, n9, rfl⟩
                    rw [HFx.out]
                    have HS9 := hid (HSx.out.drewN n9)
                    have HO9 := hid (HOx.out.drewN n9)
                    have HB9 := hid (Below.drewN' HBx.out n9)
                    generalize wx.drewN n9 = w9 at HS9 HO9 HB9 ⊢
                    clear HSx HOx HBx HFx
                    go_wp2_with fail
                    go_roundg (G - 1)
                    case measure => omega
                    case rel => exact ⟨i + 1, _, by omega, by go_num, HS9.out, HO9.out, HB9.out⟩
                  · have HLe := hid hleast
                    have hpk := hleast.1
                    have HF1 : Hid (((nfree (t.set p true) k : Nat) : Int) = (f : Int) - 1) := by
                      have h1 := nfree_take t p (by rw [HS5.out.len]; omega) hleast.2.1 k hleast.1
                      have := HF0.out
                      show _ = _
                      omega
                    have hf1 : 0 < f := by
                      have h1 := nfree_pos t k p hleast.1 hleast.2.1
                      have := HF0.out
                      omega
                    clear hleast HLs
                    go_wp2_with fail
                    refine (take_least HS5.out HLe.out).mono ?_
                    rintro e w6 ⟨rfl, hs6, ho6⟩
                    have HS6 := hid hs6
                    have HB6 := hid (HB5.out.trans (ho6.low HQ.out HB5.out.size))
                    have HO6 := hid (HO5.out.other ho6 HNE.out.symm)
                    have HC6 := hid (HC5.out.other ho6 HCQ.out)
                    clear hs6 ho6 HS5 HB5 HO5 HC5
                    go_wp2_with fail
                    refine (take_least HC6.out HLe.out).mono ?_
                    rintro e w7 ⟨rfl, hs7, ho7⟩
                    have HB7 := hid (HB6.out.trans (ho7.low HCB.out HB6.out.size))
                    have HO7 := hid (HO6.out.other ho7 HCG.out.symm)
                    have HS7 := hid (HS6.out.other ho7 HCQ.out.symm)
                    clear hs7 ho7 HS6 HB6 HO6 HC6
                    have hon := HO7.out.c p hpk hk
                    have hfr := HO7.out.fr p
                    have HSx := hid (HS7.out.other (only_setCell w7 g p none (.bool true)) HNE.out)
                    have HOx := hid (HO7.out.set p true)
                    have HBx := hid (HB7.out.trans ((only_setCell w7 g p none (.bool true)).low HG.out HB7.out.size))
                    have HFx := HF1
                    clear HS7 HO7 HB7 HF1 HF0
                    go_wp2_with fail
                    generalize w7.setCell ⟨g, p, none⟩ (.bool true) = wx at HSx HOx HBx ⊢
                    refine (free_any HSx.out).mono ?_
                    rintro e w9 ⟨rfl, n9, rfl⟩
                    rw [HFx.out]
                    have HS9 := hid (HSx.out.drewN n9)
                    have HO9 := hid (HOx.out.drewN n9)
                    have HB9 := hid (Below.drewN' HBx.out n9)
                    generalize wx.drewN n9 = w9 at HS9 HO9 HB9 ⊢
                    clear HSx HOx HBx HFx
                    go_wp2_with fail
                    go_roundg (G - 1)
                    case measure => omega
                    case rel => exact ⟨i + 1, _, by omega, by go_num, HS9.out, HO9.out, HB9.out⟩
              · by_cases hy3 : y = 3
                · subst hy3
                  as_aux_lemma =>
                    go_wp2_with fail
                    refine (claim_no HS4.out z (by omega)).mono ?_
                    rintro e w5 ⟨rfl, rfl⟩
                    have HSx := HS4
                    have HOx := HO4
                    have HBx := HB4
                    have HFx := HF0
                    clear HS4 HO4 HB4 HF0
                    go_wp2_with fail
                    refine (free_any HSx.out).mono ?_
                    rintro e w9 ⟨rfl, n9, rfl⟩
                    rw [HFx.out]
                    have HS9 := hid (HSx.out.drewN n9)
                    have HO9 := hid (HOx.out.drewN n9)
                    have HB9 := hid (Below.drewN' HBx.out n9)
                    generalize w5.drewN n9 = w9 at HS9 HO9 HB9 ⊢
                    clear HSx HOx HBx HFx
                    go_wp2_with fail
                    go_roundg (G - 1)
                    case measure => omega
                    case rel => exact ⟨i + 1, _, by omega, by go_num, HS9.out, HO9.out, HB9.out⟩
                · have hy4 : (y == 3) = false := by simpa using hy3
                  as_aux_lemma =>
                    go_wp2_with fail
                    refine (give_no HS4.out z (by omega)).mono ?_
                    rintro e w5 ⟨rfl, rfl⟩
                    have HSx := HS4
                    have HOx := HO4
                    have HBx := HB4
                    have HFx := HF0
                    clear HS4 HO4 HB4 HF0
                    go_wp2_with fail
                    refine (free_any HSx.out).mono ?_
                    rintro e w9 ⟨rfl, n9, rfl⟩
                    rw [HFx.out]
                    have HS9 := hid (HSx.out.drewN n9)
                    have HO9 := hid (HOx.out.drewN n9)
                    have HB9 := hid (Below.drewN' HBx.out n9)
                    generalize w5.drewN n9 = w9 at HS9 HO9 HB9 ⊢
                    clear HSx HOx HBx HFx
                    go_wp2_with fail
                    go_roundg (G - 1)
                    case measure => omega
                    case rel => exact ⟨i + 1, _, by omega, by go_num, HS9.out, HO9.out, HB9.out⟩
            · have hm1 : ((m + 1 : Nat) : Int) - 1 = (m : Int) := by omega
              rw [hm1]
              clear hm1
              have hc := HO4.out.c m (by omega) hk
              cases hb : t.getD m false
              · rw [hb] at hc
                have HBb := hid hb
                clear hb
                go_wp2_with fail
                go_roundg m
                case measure => omega
                case rel => exact ⟨m, f + 1, (m : Int), rfl, rfl, by go_num, by have := HFm.out; simp only [nfree, HBb.out] at this; simp at this; omega, rfl, lst_free (by omega) HBb.out, by omega, rfl⟩
              · rw [hb] at hc
                have HBb := hid hb
                clear hb
                go_wp2_with fail
                go_roundg m
                case measure => omega
                case rel => exact ⟨m, f, zl, rfl, rfl, rfl, by have := HFm.out; simp only [nfree, HBb.out] at this; simp at this; omega, rfl, lst_on HLs.out HBb.out, by omega, rfl⟩
      · have hlt' : ¬ (i : Int) < (len : Int) := by omega
        go_wp2_with fail
        go_ret
        exact ⟨rfl, HBi.out⟩
  · have hlen' : (300 : Int) < (len : Int) := by omega
    go_wp2_with fail
    go_ret
    exact ⟨rfl, HB.out⟩
set_option linter.unusedVariables false
set_option maxRecDepth 100000 in
theorem spacePlays_lifted (os : Os) (started : os.Started) (H : Type) (enc : TypeId × Value → H) :
    ReturnsInHanded {} Try.checked os 3 .any (Rows.spacePlaysSpec.pre6 enc Try.prog Try.f3 Rows.spacePlaysRow.domain false) (Rows.spacePlaysSpec.post enc Try.prog Try.f3 false true false false) := by
  refine returnsInHanded_of_change (C := Try.checked) own started (by kernel_rfl) Try.func3
    (ChangeSpec.witness6 (enc := enc) (C := Try.checked) false ⟨#[], #[.int .i64 0, .slice none 0 0], []⟩ 8 (by kernel_rfl) (by kernel_rfl) (by kernel_rfl) (by kernel_rfl)) ?_
  intro W base args ds gs before hval0 hW hcnd _
  have hval : ∀ (j : Nat) t v, Try.f3.params[j]? = some t → args[j]? = some v → Value.okWide Try.prog W .any base t v := hval0
  have hW' := hW
  obtain ⟨p, q, hA0, hV, rfl, hfz, hnd⟩ := hW
  have hA : DataW.TrodAll enc Try.prog W 0 (fun _ => true) true Try.f3.params.toList args.toList ds p := hA0
  rw [Try.params3] at hA hval
  obtain ⟨v0, vs0, d0, ds0, p0, q0, hargs, rfl, rfl, h0, r0⟩ := trodAll_cons hA
  obtain ⟨v1, vs1, d1, ds1, p1, q1, rfl, rfl, rfl, h1, r1⟩ := trodAll_cons r0
  obtain ⟨rfl, rfl, rfl⟩ := trodAll_nil r1
  obtain rfl : args = #[v0, v1] := by cases args; simp_all
  obtain ⟨rfl, rfl⟩ := trodVars_none hV
  obtain ⟨a0, rfl, rfl, rfl, w0⟩ := open_int Try.underlying3 (hval 0 3 v0 rfl rfl) h0
  obtain ⟨a1, len1, cap1, rfl⟩ := okWide_slice Try.underlying22 (hval 1 22 v1 rfl rfl)
  have k1 := h1
  have lt1 : ∀ x ∈ p1, x.block < W.heap.size := by obtain ⟨m, hm⟩ := k1; exact DataW.trod_lt m _ _ _ hm
  obtain ⟨l1, hl1, hr1⟩ : ∃ l, l.length = len1 ∧ DeedRow W a1 l := by
    obtain ⟨fuel, hf⟩ := h1
    exact deeds_of hf
  clear hA0 hval0
  refine (spacePlays_walk W a0 w0 a1 len1 cap1 l1 hr1 hl1).mono fun e W' ⟨he, bel⟩ => ?_
  subst he
  exact ⟨_, rfl, _, _, _, [], _, [], hW', trodAll_mk1 (shut_bool Try.underlying4 _), (trodAll_cons_mk (shut_int Try.underlying3 w0) (trodAll_cons_mk (Below.trod laidOut (by kernel_rfl) (of_decide_eq_true (by kernel_rfl)) k1 bel lt1) trodAll_mk0)), rfl, bel.frame _, fun h => by cases h⟩

theorem spacePlays_over : Rows.spacePlaysRow.holds Try.pinned (OpenSpec.ofChange Rows.spacePlaysSpec) :=
  OpenClaim.holds_of_wide 3 Try.f3 rfl rfl rfl rfl rfl rfl rfl ⟨rfl, rfl, rfl, rfl, rfl⟩ rfl rfl rfl rfl rfl (by kernel_rfl) Try.func3 (by kernel_rfl)
    (of_decide_eq_true (by kernel_rfl)) (by unfold Func.isWrapper; first | (rw [if_pos (by decide +kernel)]; kernel_rfl) | (rw [if_neg (by decide +kernel)]; exact ⟨rfl, rfl⟩))
    (fun os started H enc _ => spacePlays_lifted os started H enc)
theorem spacePlays_holds : Rows.SpacePlaysSaid := spacePlays_over
#print axioms spacePlays_holds
end Go.Proofs.Ytgnjhakakgkbaaa
