/- What the program's May answers. Condition: lists are not longer than a thousand million. -/
import Derived.Test.YtmfmhlhpleahpaaSupA
namespace Go.Proofs.Ytmfmhlhpleahpaa
open Go.RowKit
def brow (l : List Bool) : Array Value := (l.map Value.bool).toArray
def tk (seen : List Int) : List Bool := (List.range 96).map fun i : Nat => decide ((i : Int) ∈ seen)
theorem tk_len (seen : List Int) : (tk seen).length = 96 := by simp [tk]
theorem tk_get (seen : List Int) (i : Nat) (h : i < 96) : (tk seen)[i]? = some (decide ((i : Int) ∈ seen)) := by
  simp [tk, h]
theorem tk_set (seen : List Int) (i : Nat) (h : i < 96) : (tk seen).set i true = tk ((i : Int) :: seen) := by
  apply List.ext_getElem?
  intro j
  by_cases hj : j < 96
  · rw [tk_get _ j hj]
    by_cases e : i = j
    · subst e
      rw [List.getElem?_set_self (by rw [tk_len]; exact h)]
      simp
    · rw [List.getElem?_set_ne e, tk_get _ j hj]
      have : ¬ ((j : Int) = (i : Int)) := by omega
      simp [this]
  · rw [List.getElem?_eq_none (by simp [tk_len]; omega), List.getElem?_eq_none (by rw [tk_len]; omega)]
theorem zero64b : (Try.prog.info? 64).map (fun i => (i.zero, i.size)) = some (some (.agg (brow (tk []))), 96) := by kernel_rfl
theorem run_alloc64b (w : World) : (Instr.alloc 64 true (.tuple #[])).run Try.prog w = .ok (.pointer (some ⟨w.heap.size, 0, none⟩)) (w.alloc (.cells (brow (tk [])) 64)) := by
  have h := (zero_of_info zero64b).1
  simp [Instr.alloc, h, newVar, newRow, Value.cells]
theorem brow_get (l : List Bool) (i : Nat) : (brow l)[i]? = l[i]?.map Value.bool := by simp [brow]
theorem brow_set (l : List Bool) (i : Nat) (b : Bool) : (brow l).setIfInBounds i (.bool b) = brow (l.set i b) := by simp [brow, List.map_set]
/-- The logs of a slot, as they lie. -/
structure LgAt (w W : World) (m i : Nat) (a : Option Addr) (n c : Nat) (l : Lg) : Prop where
  h0 : W.cell? ⟨m, i * 3, none⟩ = some (.slice a n c)
  h1 : W.cell? ⟨m, i * 3 + 1, none⟩ = some (.int .i64 l.len)
  h2 : W.cell? ⟨m, i * 3 + 2, none⟩ = some (.int .u32 (l.last : Int))
  row : IRow w a l.segs
  len : l.segs.length = n
  few : n ≤ 1000000000
theorem goLogs_cons {k : Int} {seen : List Int} {l : Lg} {r : List Lg} : goLogs k seen (l :: r) = match goSegs k seen l.segs with
    | none => false
    | some s => if l.len < 0 ∨ 8 * (l.segs.length : Int) < l.len then false else goLogs k s r := rfl
set_option maxRecDepth 10000 in
set_option maxHeartbeats 4000000 in
theorem may_any (w : World) (nb bt : Int) (aj : Option Addr) (nj cj : Nat) (lj : Int) (kj : Nat) (ac : Option Addr) (nc cc : Nat) (lc : Int) (kc : Nat) (sj sc : List Int)
    (hj : IRow w aj sj) (hnj : sj.length = nj) (hmj : nj ≤ 1000000000) (hc : IRow w ac sc) (hnc : sc.length = nc) (hmc : nc ≤ 1000000000) (k : Int) :
    Calls Try.prog 10 #[.agg #[.int .i64 nb, .int .i64 bt, .slice aj nj cj, .int .i64 lj, .int .u32 (kj : Int), .slice ac nc cc, .int .i64 lc, .int .u32 (kc : Int)], .int .i64 k] w
      fun e w' => e = .returned (.bool (Sp.may ⟨nb, bt, ⟨sj, lj, kj⟩, ⟨sc, lc, kc⟩⟩ k)) ∧ Below w.heap.size w w' := by
  have hkf := fits_any
  unfold Sp.may
  dsimp only
  cases hf1 : fits nb
  · go_enter Try.func10, Try.ntmps10
    go_wp2_with (go_at_call 25; refine (hkf _ _).mono ?_; rintro e w' ⟨rfl, rfl⟩; rw [hf1])
    go_ret
    exact ⟨rfl, (Below.refl _ _).alloc (Nat.le_refl _) _⟩
  cases hf2 : fits bt
  · go_enter Try.func10, Try.ntmps10
    go_wp2_with (go_at_call 25; refine (hkf _ _).mono ?_; rintro e w' ⟨rfl, rfl⟩; first | rw [hf1] | rw [hf2])
    go_ret
    exact ⟨rfl, (Below.refl _ _).alloc (Nat.le_refl _) _⟩
  rw [Bool.true_and, Bool.true_and]
  have hmn : (if (96 : Int) < k then (96 : Int) else k) = min k 96 := by omega
  have HK96 : Hid (min k 96 ≤ 96) := by show _ ≤ _; omega
  generalize min k 96 = K at *
  obtain ⟨ans, hans⟩ : ∃ ans, goLogs K [] [⟨sj, lj, kj⟩, ⟨sc, lc, kc⟩] = ans := ⟨_, rfl⟩
  rw [hans]
  have HAN := hid hans
  have HJ := hid (And.intro hj (And.intro hnj hmj))
  have HC := hid (And.intro hc (And.intro hnc hmc))
  clear hj hnj hmj hc hnc hmc hans
  go_enter Try.func10, Try.ntmps10
  go_wp2_with (first | (go_at_call 25; refine (hkf _ _).mono ?_; rintro e w' ⟨rfl, rfl⟩; first | rw [hf1] | rw [hf2]) | refine step_alloc 64 rfl rfl _ _ (run_alloc64b _) ?_)
  generalize hM : w.heap.size = m at *
  have HM := hid hM
  clear hM
  go_loopg [7, 9, 28, 35] 2 (fun t v7 v9 v28 v35 wr => ∃ (i : Nat) (seen : List Int), i + t = 2 ∧ v28 = .int .i64 (i : Int) ∧ Below m w wr ∧ m + 2 < wr.heap.size ∧ wr.heap[m + 1]? = some (.cells (brow (tk seen)) 64 (0, 0)) ∧
      wr.heap[m + 2]? = some (.cells #[.slice aj nj cj, .int .i64 lj, .int .u32 (kj : Int), .slice ac nc cc, .int .i64 lc, .int .u32 (kc : Int)] 30 (0, 0)) ∧ Hid (goLogs K seen ([⟨sj, lj, kj⟩, ⟨sc, lc, kc⟩].drop i) = ans))
  case atStart =>
    refine ⟨0, [], rfl, rfl, ?_, ?_, ?_, ?_, HAN⟩
    · exact (((Below.refl _ _).alloc (Nat.le_of_eq HM.out.symm) _).alloc (by have := HM.out; simp; omega) _).alloc (by have := HM.out; simp; omega) _
    · have := HM.out; simp; omega
    · rw [← HM.out]; exact (heap_alloc_old _ _ (by simp)).trans (heap_alloc2_new _ _ _)
    · rw [← HM.out]
      have := heap_alloc_new ((w.alloc (.cells #[.int .i64 nb, .int .i64 bt, .slice aj nj cj, .int .i64 lj, .int .u32 (kj : Int), .slice ac nc cc, .int .i64 lc, .int .u32 (kc : Int)] 32)).alloc (.cells (brow (tk [])) 64)) (.cells #[.slice aj nj cj, .int .i64 lj, .int .u32 (kj : Int), .slice ac nc cc, .int .i64 lc, .int .u32 (kc : Int)] 30)
      simpa using this
  case round =>
    obtain ⟨i, seen, hi, rfl, hb, hsz, ht, hL, hg⟩ := hrel
    have HBi := hid hb
    have HSi := hid hsz
    have HTi := hid ht
    have HLi := hid hL
    clear hkf hf1 hf2 hmn
    by_cases h2 : i < 2
    · obtain ⟨g1, hg1⟩ : ∃ g1, gk = g1 + 1 := ⟨gk - 1, by omega⟩
      have HG1 := hid (And.intro hg1 hi)
      obtain ⟨a, n, c, l, la, sg, e0, e1, e2, hrow, hlen, hfew, hgo⟩ : ∃ a n c, ∃ l : Int, ∃ la : Nat, ∃ sg : List Int, wr.cell? ⟨m + 2, i * 3, none⟩ = some (.slice a n c) ∧ wr.cell? ⟨m + 2, i * 3 + 1, none⟩ = some (.int .i64 l) ∧ wr.cell? ⟨m + 2, i * 3 + 2, none⟩ = some (.int .u32 (la : Int)) ∧ IRow w a sg ∧ sg.length = n ∧ n ≤ 1000000000 ∧ goLogs K seen (⟨sg, l, la⟩ :: [⟨sj, lj, kj⟩, ⟨sc, lc, kc⟩].drop (i + 1)) = ans := by
        have hc := fun o => cell_of_row wr (m + 2) o _ 30 (0, 0) hL
        rcases (by omega : i = 0 ∨ i = 1) with rfl | rfl
        · exact ⟨aj, nj, cj, lj, kj, sj, by rw [hc]; rfl, by rw [hc]; rfl, by rw [hc]; rfl, HJ.out.1, HJ.out.2.1, HJ.out.2.2, hg.out⟩
        · exact ⟨ac, nc, cc, lc, kc, sc, by rw [hc]; rfl, by rw [hc]; rfl, by rw [hc]; rfl, HC.out.1, HC.out.2.1, HC.out.2.2, hg.out⟩
      have HROW := hid hrow
      have HLEN := hid hlen
      have HGO := hid hgo
      have hii : (i : Int) < 2 := by omega
      have hn9 : (n : Int) ≤ 1000000000 := by omega
      clear hi hb hsz ht hL hg hg1 hrow hlen hgo
      go_wp2_with fail
      generalize hx : wr.heap.size = x at *
      have HX := hid hx
      clear hx e0 e1 e2
      go_loopg [9, 35] n (fun t v9 v35 w2 => ∃ (j : Nat) (seen2 : List Int), j + t = n ∧ v35 = .int .i64 (j : Int) ∧ Below m w w2 ∧ x < w2.heap.size ∧ w2.heap[m + 1]? = some (.cells (brow (tk seen2)) 64 (0, 0)) ∧
          w2.heap[m + 2]? = some (.cells #[.slice aj nj cj, .int .i64 lj, .int .u32 (kj : Int), .slice ac nc cc, .int .i64 lc, .int .u32 (kc : Int)] 30 (0, 0)) ∧ w2.heap[x]? = some (.cells #[.slice a n c, .int .i64 l, .int .u32 (la : Int)] 30 (0, 0)) ∧ Hid (goSegs K seen2 (sg.drop j) = goSegs K seen sg))
      case atStart =>
        have hS := HSi.out
        refine ⟨0, seen, by omega, rfl, HBi.out.alloc (by have := HX.out; omega) _, by have := HX.out; simp; omega, ?_, ?_, ?_, hid rfl⟩
        · exact (heap_alloc_old _ _ (by have := HX.out; omega)).trans HTi.out
        · exact (heap_alloc_old _ _ (by have := HX.out; omega)).trans HLi.out
        · rw [← HX.out]; exact heap_alloc_new _ _
      case round =>
        obtain ⟨j, seen2, hj, rfl, hb2, hs2, ht2, hL2, hx2, hgs⟩ := hrel
        have HB2 := hid hb2
        have HS2 := hid hs2
        have HT2 := hid ht2
        have HL2 := hid hL2
        have HX2 := hid hx2
        by_cases hjn : j < n
        · have hji : (j : Int) < (n : Int) := by omega
          have hjl : j < sg.length := by rw [HLEN.out]; exact hjn
          obtain ⟨p0, o0, rfl, hp0, hcell⟩ : ∃ b off, a = some ⟨b, off, none⟩ ∧ b < w.heap.size ∧ ∀ i, i < sg.length → w.cell? ⟨b, off + i, none⟩ = some (.int .i64 (sg.getD i 0)) := by
            rcases HROW.out with h | h
            · rw [h] at hjl; simp at hjl
            · exact h
          have hcj : wr.cell? ⟨p0, o0 + j, none⟩ = some (.int .i64 (sg.getD j 0)) := (hb2.cell (p := ⟨p0, o0 + j, none⟩) (by have := HM.out; show p0 < m; omega)).trans (hcell j hjl)
          have hdr : sg.drop j = sg.getD j 0 :: sg.drop (j + 1) := by
            rw [List.drop_eq_getElem_cons hjl, List.getD_eq_getElem?_getD, List.getElem?_eq_getElem hjl]; rfl
          rw [hdr] at hgs
          generalize sg.getD j 0 = X at *
          have HGS := hid hgs.out
          have HJN := hid hj
          clear hgs hdr hcell hp0 hb2 hs2 hx2 hL2 hj
          by_cases hX0 : X < 0
          · have HF : Hid (ans = false) := by
              have e := HGO.out
              rw [goLogs_cons, ← HGS.out, goSegs, if_pos (.inl hX0)] at e
              exact e.symm
            clear ht2
            go_wp2_with fail
            go_ret
            exact ⟨by rw [HF.out]; rfl, HM.out ▸ HB2.out⟩
          · by_cases hXK : K ≤ X
            · have HF : Hid (ans = false) := by
                have e := HGO.out
                rw [goLogs_cons, ← HGS.out, goSegs, if_pos (.inr (.inl hXK))] at e
                exact e.symm
              clear ht2
              go_wp2_with fail
              go_ret
              exact ⟨by rw [HF.out]; rfl, HM.out ▸ HB2.out⟩
            · obtain ⟨y, rfl⟩ : ∃ y : Nat, X = (y : Int) := ⟨X.toNat, by omega⟩
              have hy : y < 96 := by have := HK96.out; omega
              have hty : wr.cell? ⟨m + 1, y, none⟩ = some (.bool (decide ((y : Int) ∈ seen2))) := by
                rw [cell_of_row wr (m + 1) y _ 64 (0, 0) ht2, brow_get, tk_get _ y hy]; rfl
              have hfy := frozen_of_row wr (m + 1) y _ 64 ht2
              by_cases hin : (y : Int) ∈ seen2
              · rw [decide_eq_true hin] at hty
                have HF : Hid (ans = false) := by
                  have e := HGO.out
                  rw [goLogs_cons, ← HGS.out, goSegs, if_pos (.inr (.inr hin))] at e
                  exact e.symm
                clear ht2 hin
                go_wp2_with fail
                go_ret
                exact ⟨by rw [HF.out]; rfl, HM.out ▸ HB2.out⟩
              · rw [decide_eq_false hin] at hty
                have HG2 : Hid (goSegs K ((y : Int) :: seen2) (sg.drop (j + 1)) = goSegs K seen sg) := by
                  have e := HGS.out
                  rw [goSegs, if_neg (by rintro (h | h | h) <;> first | exact hX0 h | exact hXK h | exact hin h)] at e
                  exact e
                clear ht2 hin
                go_wp2_with fail
                go_roundg (gk - 1)
                case measure => have := HJN.out; omega
                case rel =>
                  have hne : m + 2 ≠ m + 1 := by omega
                  have hxne : x ≠ m + 1 := by have := HSi.out; have := HX.out; omega
                  refine ⟨j + 1, (y : Int) :: seen2, by have := HJN.out; omega, by go_num, HB2.out.setCell (by show m ≤ m + 1; omega) _, by simpa using HS2.out, ?_, ?_, ?_, HG2⟩
                  · rw [heap_setCell_same _ _ _ _ _ _ HT2.out, brow_set, tk_set _ _ hy]
                  · exact (Below.heap_setCell _ _ _ _ hne).trans HL2.out
                  · exact (Below.heap_setCell _ _ _ _ hxne).trans HX2.out
        · have hji : ¬ (j : Int) < (n : Int) := by omega
          have c0 : wr.cell? ⟨x, 0, none⟩ = some (.slice a n c) := by rw [cell_of_row wr x 0 _ 30 (0, 0) hx2]; rfl
          have c1 : wr.cell? ⟨x, 1, none⟩ = some (.int .i64 l) := by rw [cell_of_row wr x 1 _ 30 (0, 0) hx2]; rfl
          have HGE : Hid (goLogs K seen (⟨sg, l, la⟩ :: [⟨sj, lj, kj⟩, ⟨sc, lc, kc⟩].drop (i + 1)) = if l < 0 ∨ 8 * (n : Int) < l then false else goLogs K seen2 ([⟨sj, lj, kj⟩, ⟨sc, lc, kc⟩].drop (i + 1))) := by
            have e := hgs.out
            rw [List.drop_eq_nil_of_le (by rw [HLEN.out]; omega), goSegs] at e
            show _ = _
            rw [goLogs_cons, ← e, ← HLEN.out]
          clear hgs hb2 hs2 ht2 hL2 hx2 hj
          by_cases hl0 : l < 0
          · have HF : Hid (ans = false) := by
              have e := HGO.out
              rw [HGE.out, if_pos (.inl hl0)] at e
              exact e.symm
            go_wp2_with fail
            go_ret
            exact ⟨by rw [HF.out]; rfl, HM.out ▸ HB2.out⟩
          · by_cases hl8 : 8 * (n : Int) < l
            · have HF : Hid (ans = false) := by
                have e := HGO.out
                rw [HGE.out, if_pos (.inr hl8)] at e
                exact e.symm
              go_wp2_with fail
              go_ret
              exact ⟨by rw [HF.out]; rfl, HM.out ▸ HB2.out⟩
            · have HG2 : Hid (goLogs K seen2 ([⟨sj, lj, kj⟩, ⟨sc, lc, kc⟩].drop (i + 1)) = ans) := by
                have e := HGO.out
                rw [HGE.out, if_neg (by rintro (h | h) <;> first | exact hl0 h | exact hl8 h)] at e
                exact e
              go_wp2_with fail
              go_roundg g1
              case measure => have := HG1.out; omega
              case rel =>
                refine ⟨i + 1, seen2, by have := HG1.out; omega, by go_num, HB2.out, ?_, HT2.out, HL2.out, HG2⟩
                have := HS2.out; have := HSi.out; have := HX.out; omega
    · have hii : ¬ (i : Int) < 2 := by omega
      have HF : Hid (ans = true) := by
        have e := hg.out
        rw [show i = 2 by omega] at e
        exact e.symm
      clear hi hb hsz ht hL hg
      go_wp2_with fail
      go_ret
      exact ⟨by rw [HF.out]; rfl, HM.out ▸ HBi.out⟩
end Go.Proofs.Ytmfmhlhpleahpaa
