/- ChunkOnce, as it is walked: however often and in whatever order texts are put, each is there once, under the number that it had first. No condition. -/
import Derived.Test.YtenjhmlgimnnoaaPuts
import Derived.Laws.OwnMore
namespace Go.Proofs.Ytenjhmlgimnnoaa
open Go.ChangeShapes Go.WideShapes Go.ChangeAt Go.RowKit
set_option maxRecDepth 4000
set_option linter.unusedVariables false
attribute [local go_sem ↓] Go.wp_at_zero Go.wp_at_succ
def May (l : List Nat) : Prop := 1 ≤ l.length ∧ l.length ≤ 64
/-- The number that a text was given. -/
def Rel (ps : Ps) (z : Int) (l : List Nat) : Prop := (May l → ∃ n : Nat, z = (n : Int) ∧ (n, l) ∈ ps) ∧ (¬ May l → z = 0)
theorem put_sub (s : St) (l : List Nat) {p : Nat × List Nat} (h : p ∈ s.ps) : p ∈ (put s l).2.ps := by
  unfold put
  split
  · split
    · exact h
    · exact List.mem_append.2 (.inl h)
  · exact h
theorem Rel.put {s : St} {z : Int} {l : List Nat} (h : Rel s.ps z l) (x : List Nat) : Rel (put s x).2.ps z l :=
  ⟨fun hm => by obtain ⟨n, h1, h2⟩ := h.1 hm; exact ⟨n, h1, put_sub s x h2⟩, h.2⟩
theorem make_ints (n : Nat) (hn : n ≤ 1000000) (w : World) : (Instr.makeSlice 39 (.int .i64 (n : Int)) (.int .i64 (n : Int))).run Try.prog w = .ok (.slice (some ⟨w.heap.size, 0, none⟩) n n) (w.alloc (.cells (ivals (List.replicate n 0)).toArray 3)) := by
  have h := run_make_row' 39 3 (.int .i64 0) 8 Try.underlying39 info3 rfl .i64 .i64 n (by omega) (by omega) w
  have e : madeCells #[Value.int .i64 0] n = (ivals (List.replicate n 0)).toArray := by
    apply Array.ext'
    rw [toList_madeCells_one]
    simp [ivals]
  rw [e] at h
  exact h
theorem ints_cell {w : World} {g : Nat} {R : List Int} (h : w.heap[g]? = some (.cells (ivals R).toArray 3 (0, 0))) {i : Nat} (hi : i < R.length) : w.cell? ⟨g, i, none⟩ = some (.int .i64 (R.getD i 0)) ∧ w.frozen? ⟨g, i, none⟩ = false := by
  refine ⟨?_, frozen_of_row w g i _ 3 h⟩
  rw [cell_of_row w g i _ 3 (0, 0) h, List.getElem?_toArray]
  exact ivals_get R i hi
theorem ints_set {w : World} {g : Nat} {R : List Int} (h : w.heap[g]? = some (.cells (ivals R).toArray 3 (0, 0))) (i : Nat) (z : Int) : (w.setCell ⟨g, i, none⟩ (.int .i64 z)).heap[g]? = some (.cells (ivals (R.set i z)).toArray 3 (0, 0)) := by
  rw [heap_setCell_same _ _ _ _ _ _ h]
  simp [ivals]
theorem getD_set_int (R : List Int) (i j : Nat) (z : Int) (hi : i < R.length) : (R.set i z).getD j 0 = if i = j then z else R.getD j 0 := by
  simp only [List.getD_eq_getElem?_getD, List.getElem?_set]
  by_cases h : i = j
  · subst h; simp [hi]
  · simp [h]
/-- A cell that is no part of the store is written. -/
theorem CkAt.set {base : Nat} {w : World} {q n : Nat} {s : St} (h : CkAt base w q n s) {g i : Nat} (v : Value) (hg : g < base) (hq : g ≠ q) : CkAt base (w.setCell ⟨g, i, none⟩ v) q n s :=
  h.kept ⟨by simp [World.setCell], fun k o hk hf _ => by
    have : k ≠ g := by rcases hf with rfl | hf; exact fun e => hq e.symm; omega
    rw [Below.heap_setCell _ _ _ _ this]
    exact hk⟩
theorem Chg.low_at {q base : Nat} {w w' : World} (h : Chg q base w w') {g : Nat} {o : Obj} (ho : w.heap[g]? = some o) (hg : g < base) (hq : g ≠ q) : w'.heap[g]? = some o := h.low g o ho hg hq
/-- A row of the rows that came in, in whatever later world. -/
theorem Grid.later {w : World} {a : Option Addr} {ls : List (List Nat)} (h : Grid w a ls) {i : Nat} (hi : i < ls.length) : ∃ b off, a = some ⟨b, off, none⟩ ∧ ∃ ai ci, (∀ W, Below w.heap.size w W → W.cell? ⟨b, off + i, none⟩ = some (.slice ai (ls.getD i []).length ci)) ∧ (∀ W, Below w.heap.size w W → Row W ai (ls.getD i [])) := by
  rcases h with h | ⟨b, off, ha, hlt, hc⟩
  · rw [h] at hi; simp at hi
  · obtain ⟨ai, ci, h1, h2⟩ := hc i hi
    exact ⟨b, off, ha, ai, ci, fun W hW => (hW.cell (p := ⟨b, off + i, none⟩) hlt).trans h1, fun W hW => h2.below hW⟩
set_option maxHeartbeats 400000 in
theorem once_zero {w : World} (a : Option Addr) (cap : Nat) (a2 : Option Addr) (n2 cap2 : Nat) (h2 : n2 ≤ 200) :
    Calls Try.prog 5 #[.slice a 0 cap, .slice a2 n2 cap2] w fun e w' => e = .returned (.bool true) ∧ Below w.heap.size w w' := by
  have g2 : ¬ (200 : Int) < (n2 : Int) := by omega
  have hmk : ∀ w : World, (Instr.makeSlice 39 (.int .i64 0) (.int .i64 0)).run Try.prog w = .ok (.slice (some ⟨w.heap.size, 0, none⟩) 0 0) (w.alloc (.cells #[] 3)) := fun w => make_ints 0 (by decide) w
  go_enter Try.func5, Try.ntmps5
  go_wp2_with fail
  refine (awake_any w).mono ?_
  rintro e w1 ⟨rfl, hb1⟩
  have HB1 := hid hb1
  clear hb1
  go_wp2_with fail
  refine (new_any (w := w1)).mono ?_
  rintro e w2 ⟨rfl, rfl⟩
  have hck0 := CkAt.new (w1.heap.size + 2) w1
  have HB2 := hid (HB1.out.trans ((Below.refl w.heap.size w1).alloc HB1.out.size (.cells #[.map none, .map none, .int .i64 0] 55)))
  generalize w1.alloc (.cells #[.map none, .map none, .int .i64 0] 55) = w2 at *
  have HCK := hid hck0
  clear hck0
  go_wp2_with fail
  refine wp_loop_rounds 1 ?_
  rw [rounds_succ]
  go_wp2_with fail
  have hb3 : Below w2.heap.size w2 (w2.alloc (.cells #[] 3)) := (Below.refl _ w2).alloc (Nat.le_refl _) _
  by_cases h0 : n2 = 0
  · subst h0
    refine wp_loop_rounds 1 ?_
    rw [rounds_succ]
    go_wp2_with fail
    refine wp_loop_rounds 1 ?_
    rw [rounds_succ]
    go_wp2_with fail
    refine (size_any (HCK.out.below hb3) (by decide)).mono ?_
    rintro e w4 ⟨rfl, hb4⟩
    have HB4 := hid (HB2.out.trans ((hb3.trans (hb4.mono hb3.size)).mono HB2.out.size))
    clear hb3 hb4
    go_wp2_with fail
    go_ret
    exact ⟨rfl, HB4.out⟩
  · have g3 : (0 : Int) < (n2 : Int) := by omega
    refine wp_loop_rounds 1 ?_
    rw [rounds_succ]
    go_wp2_with fail
    refine wp_loop_rounds 1 ?_
    rw [rounds_succ]
    go_wp2_with fail
    refine (size_any (HCK.out.below hb3) (by decide)).mono ?_
    rintro e w4 ⟨rfl, hb4⟩
    have HB4 := hid (HB2.out.trans ((hb3.trans (hb4.mono hb3.size)).mono HB2.out.size))
    clear hb3 hb4
    go_wp2_with fail
    go_ret
    exact ⟨rfl, HB4.out⟩
set_option maxHeartbeats 8000000 in
theorem once_walk {w : World} (a : Option Addr) (ls : List (List Nat)) (n cap : Nat) (hn : ls.length = n) (hg : Grid w a ls) (a2 : Option Addr) (l2 : List Nat) (n2 cap2 : Nat) (hn2 : l2.length = n2) (hr2 : Row w a2 l2) (h60 : n ≤ 60) (h200 : n2 ≤ 200) (h0 : 0 < n) :
    Calls Try.prog 5 #[.slice a n cap, .slice a2 n2 cap2] w fun e w' => e = .returned (.bool true) ∧ Below w.heap.size w w' := by
  have g1 : ¬ (60 : Int) < (n : Int) := by omega
  have g2 : ¬ (200 : Int) < (n2 : Int) := by omega
  have hmk := fun w => make_ints n (by omega) w
  have HN := hid hn
  have HN2 := hid hn2
  have HG := hid hg
  have HR2 := hid hr2
  clear hn hn2 hg hr2
  go_enter Try.func5, Try.ntmps5
  go_wp2_with fail
  refine (awake_any w).mono ?_
  rintro e w1 ⟨rfl, hb1⟩
  have HB1 := hid hb1
  clear hb1
  go_wp2_with fail
  refine (new_any (w := w1)).mono ?_
  rintro e w2 ⟨rfl, rfl⟩
  have hck0 := CkAt.new (w1.heap.size + 2) w1
  have HB2 := hid (HB1.out.trans ((Below.refl w.heap.size w1).alloc HB1.out.size (.cells #[.map none, .map none, .int .i64 0] 55)))
  have hs2 : (w1.alloc (.cells #[.map none, .map none, .int .i64 0] 55)).heap.size = w1.heap.size + 1 := by simp
  have hq : w.heap.size ≤ w1.heap.size := HB1.out.size
  generalize w1.alloc (.cells #[.map none, .map none, .int .i64 0] 55) = w2 at *
  obtain ⟨q, hqe⟩ : ∃ q, w1.heap.size = q := ⟨_, rfl⟩
  rw [hqe] at hck0 hs2 hq ⊢
  have HCK0 := hid hck0
  have HS2 := hid hs2
  clear hck0 hs2 hqe
  go_wp2_with fail
  have hb3 : Below w2.heap.size w2 (w2.alloc (.cells (ivals (List.replicate n 0)).toArray 3)) := (Below.refl _ w2).alloc (Nat.le_refl _) _
  have HCK3 := hid (HCK0.out.below hb3)
  have HB3 := hid (HB2.out.trans (hb3.mono HB2.out.size))
  have hnew := heap_alloc_new w2 (.cells (ivals (List.replicate n 0)).toArray 3)
  have hs3 : (w2.alloc (.cells (ivals (List.replicate n 0)).toArray 3)).heap.size = w2.heap.size + 1 := by simp
  generalize w2.alloc (.cells (ivals (List.replicate n 0)).toArray 3) = w3 at *
  obtain ⟨g, hge⟩ : ∃ g, w2.heap.size = g := ⟨_, rfl⟩
  have HGQ : Hid (g = q + 1 ∧ w3.heap.size = q + 2) := by have := HS2.out; show _ ∧ _; omega
  rw [hge] at hnew ⊢
  have HNEW := hid hnew
  clear hge hnew hs3 hb3 hmk
  go_loopg [7, 8] n (fun gk v7 v8 wr => ∃ (i : Nat) (s : St) (R : List Int), i + gk = n ∧ v8 = .int .i64 (i : Int) ∧ v7 = .int .i64 ((bytes s.ps : Nat) : Int) ∧ Hid (CkAt (q + 2) wr q (2 * i) s) ∧ Hid (Below w.heap.size w wr ∧ q + 2 ≤ wr.heap.size) ∧ Hid (wr.heap[g]? = some (.cells (ivals R).toArray 3 (0, 0))) ∧ Hid (R.length = n) ∧ s.last ≤ i ∧ Hid (∀ j, j < i → Rel s.ps (R.getD j 0) (ls.getD j [])) ∧ Hid (∀ j, i ≤ j → R.getD j 0 = 0))
  case atStart => exact ⟨0, ⟨[], 0⟩, List.replicate n 0, by omega, rfl, rfl, HCK3, hid ⟨HB3.out, by have := HGQ.out; omega⟩, HNEW, hid (List.length_replicate ..), Nat.le_refl _, hid (fun j hj => absurd hj (Nat.not_lt_zero _)), hid (fun j _ => by simp [List.getD_eq_getElem?_getD, List.getElem?_replicate]; split <;> rfl)⟩
  case round =>
    obtain ⟨i, s, R, hi, rfl, rfl, HC, HBW, HGR, HRN, hsl, HRL, HRZ⟩ := hrel
    have hbz : bytes s.ps ≤ 7680 := by
      have h1 := bytes_le HC.out.ok
      have h2 := HC.out.few
      omega
    by_cases hlt' : i < n
    · have g3 : (i : Int) < (n : Int) := by omega
      obtain ⟨b, off, rfl, ai, ci, hcell, hrow⟩ := HG.out.later (i := i) (by rw [HN.out]; exact hlt')
      obtain ⟨l, hl⟩ : ∃ l, ls.getD i [] = l := ⟨_, rfl⟩
      have HL := hid hl
      rw [hl] at hcell hrow
      obtain ⟨m, hm⟩ : ∃ m, l.length = m := ⟨_, rfl⟩
      have HM := hid hm
      rw [hm] at hcell
      have kp := put_any HC.out ai l m ci hm (hrow _ HBW.out.1) (by omega) (by omega) HBW.out.2
      have HCL := hid hcell
      have hc1 := hcell _ HBW.out.1
      clear hrow hl hm hcell
      by_cases hmay : 1 ≤ m ∧ m ≤ 64
      · have HMAY := hid hmay
        cases ht : byText s.ps l with
        | some k =>
        rw [put_some (by rw [HM.out]; exact hmay) ht] at kp
        have hkm := byText_some ht
        have KP := hid kp
        clear kp
        have HKM := hid hkm
        clear hkm ht
        go_wp2_with fail
        refine KP.out.mono ?_
        rintro e w5 ⟨rfl, h5, hc5⟩
        have hg5 := hc5.low_at HGR.out (by have := HGQ.out; omega) (by have := HGQ.out; omega)
        have HG5 := hid hg5
        have hb5 : Below w.heap.size w w5 := HBW.out.1.trans (hc5.below (by omega) (by omega) HBW.out.1.size)
        have hcl5 := HCL.out _ hb5
        obtain ⟨hgc, hgf⟩ := ints_cell hg5 (i := i) (by rw [HRN.out]; exact hlt')
        have hi2 : (i : Int) < (n : Int) := g3
        have H5 := hid (h5.set (g := g) (i := i) (.int .i64 (k : Int)) (by have := HGQ.out; omega) (by have := HGQ.out; omega))
        have HB5 := hid (And.intro hb5 (Nat.le_trans HBW.out.2 hc5.size))
        have hb6 : Below w.heap.size w (w5.setCell ⟨g, i, none⟩ (.int .i64 (k : Int))) := hb5.setCell (by have := HGQ.out; simp; omega) _
        have hcl6 := HCL.out _ hb6
        clear hg5 h5 hc5 KP
        go_wp2_with fail
        go_roundg (gk - 1)
        case measure => omega
        case rel =>
          refine ⟨i + 1, s, R.set i (k : Int), by omega, by go_num, rfl, hid (H5.out.mono (by omega)), hid ⟨hb6, by simpa [World.setCell] using HB5.out.2⟩, hid (ints_set HG5.out i _), hid (by rw [List.length_set]; exact HRN.out), by omega, hid (fun j hj => ?_), hid (fun j hj => ?_)⟩
          · rw [getD_set_int R i j _ (by rw [HRN.out]; exact hlt')]
            by_cases e : i = j
            · subst e
              rw [if_pos rfl]
              exact ⟨fun _ => ⟨k, rfl, by rw [HL.out]; exact HKM.out⟩, fun h => absurd (show May _ by unfold May; rw [HL.out, HM.out]; exact HMAY.out) h⟩
            · rw [if_neg e]
              exact HRL.out j (by omega)
          · rw [getD_set_int R i j _ (by rw [HRN.out]; exact hlt'), if_neg (by omega)]
            exact HRZ.out j (by omega)
        | none =>
        rw [put_none (by rw [HM.out]; exact hmay) ht] at kp
        obtain ⟨id, hide⟩ : ∃ id, s.last + 1 = id := ⟨_, rfl⟩
        rw [hide] at kp
        have KP := hid kp
        clear kp
        have HIDE := hid hide
        clear hide ht
        go_wp2_with fail
        refine KP.out.mono ?_
        rintro e w5 ⟨rfl, h5, hc5⟩
        have hg5 := hc5.low_at HGR.out (by have := HGQ.out; omega) (by have := HGQ.out; omega)
        have HG5 := hid hg5
        have hb5 : Below w.heap.size w w5 := HBW.out.1.trans (hc5.below (by omega) (by omega) HBW.out.1.size)
        have hcl5 := HCL.out _ hb5
        obtain ⟨hgc, hgf⟩ := ints_cell hg5 (i := i) (by rw [HRN.out]; exact hlt')
        have hi2 : (i : Int) < (n : Int) := g3
        have H5 := hid (h5.set (g := g) (i := i) (.int .i64 (id : Int)) (by have := HGQ.out; omega) (by have := HGQ.out; omega))
        have HB5 := hid (And.intro hb5 (Nat.le_trans HBW.out.2 hc5.size))
        have hb6 : Below w.heap.size w (w5.setCell ⟨g, i, none⟩ (.int .i64 (id : Int))) := hb5.setCell (by have := HGQ.out; simp; omega) _
        have hcl6 := HCL.out _ hb6
        clear hg5 h5 hc5 KP
        go_wp2_with fail
        go_roundg (gk - 1)
        case measure => omega
        case rel =>
          refine ⟨i + 1, ⟨s.ps ++ [(id, l)], id⟩, R.set i (id : Int), by omega, by go_num, (by show Value.int _ _ = Value.int _ _; congr 1; rw [bytes_add, HM.out]; push_cast; rfl), hid (H5.out.mono (by omega)), hid ⟨hb6, by simpa [World.setCell] using HB5.out.2⟩, hid (ints_set HG5.out i _), hid (by rw [List.length_set]; exact HRN.out), by have := HIDE.out; show id ≤ _; omega, hid (fun j hj => ?_), hid (fun j hj => ?_)⟩
          · rw [getD_set_int R i j _ (by rw [HRN.out]; exact hlt')]
            by_cases e : i = j
            · subst e
              rw [if_pos rfl]
              exact ⟨fun _ => ⟨id, rfl, by rw [HL.out]; simp⟩, fun h => absurd (show May _ by unfold May; rw [HL.out, HM.out]; exact HMAY.out) h⟩
            · rw [if_neg e]
              exact ⟨fun hm => by obtain ⟨x, h1, h2⟩ := (HRL.out j (by omega)).1 hm; exact ⟨x, h1, List.mem_append.2 (.inl h2)⟩, (HRL.out j (by omega)).2⟩
          · rw [getD_set_int R i j _ (by rw [HRN.out]; exact hlt'), if_neg (by omega)]
            exact HRZ.out j (by omega)
      · have HMAY := hid hmay
        rw [put_not (by rw [HM.out]; exact hmay)] at kp
        have KP := hid kp
        clear kp
        by_cases hm0 : m < 1
        · have g4 : ¬ (1 : Int) ≤ (m : Int) := by omega
          go_wp2_with fail
          refine KP.out.mono ?_
          rintro e w5 ⟨rfl, h5, hc5⟩
          have hg5 := hc5.low_at HGR.out (by have := HGQ.out; omega) (by have := HGQ.out; omega)
          have hb5 : Below w.heap.size w w5 := HBW.out.1.trans (hc5.below (by omega) (by omega) HBW.out.1.size)
          have hcl5 := HCL.out _ hb5
          have H5 := hid h5
          have HG5 := hid hg5
          have HB5 := hid (And.intro hb5 (Nat.le_trans HBW.out.2 hc5.size))
          clear hg5 h5 hc5 KP
          go_wp2_with fail
          go_roundg (gk - 1)
          case measure => omega
          case rel =>
            refine ⟨i + 1, s, R, by omega, by go_num, rfl, hid (H5.out.mono (by omega)), HB5, HG5, HRN, by omega, hid (fun j hj => ?_), hid (fun j hj => HRZ.out j (by omega))⟩
            by_cases e : j = i
            · subst e
              rw [HRZ.out j (Nat.le_refl _)]
              exact ⟨fun h => absurd (show 1 ≤ m ∧ m ≤ 64 by unfold May at h; rw [HL.out, HM.out] at h; exact h) HMAY.out, fun _ => rfl⟩
            · exact HRL.out j (by omega)
        · have g4 : (1 : Int) ≤ (m : Int) := by omega
          have g5 : ¬ (m : Int) ≤ 64 := by omega
          go_wp2_with fail
          refine KP.out.mono ?_
          rintro e w5 ⟨rfl, h5, hc5⟩
          have hg5 := hc5.low_at HGR.out (by have := HGQ.out; omega) (by have := HGQ.out; omega)
          have hb5 : Below w.heap.size w w5 := HBW.out.1.trans (hc5.below (by omega) (by omega) HBW.out.1.size)
          have hcl5 := HCL.out _ hb5
          have H5 := hid h5
          have HG5 := hid hg5
          have HB5 := hid (And.intro hb5 (Nat.le_trans HBW.out.2 hc5.size))
          clear hg5 h5 hc5 KP
          go_wp2_with fail
          go_roundg (gk - 1)
          case measure => omega
          case rel =>
            refine ⟨i + 1, s, R, by omega, by go_num, rfl, hid (H5.out.mono (by omega)), HB5, HG5, HRN, by omega, hid (fun j hj => ?_), hid (fun j hj => HRZ.out j (by omega))⟩
            by_cases e : j = i
            · subst e
              rw [HRZ.out j (Nat.le_refl _)]
              exact ⟨fun h => absurd (show 1 ≤ m ∧ m ≤ 64 by unfold May at h; rw [HL.out, HM.out] at h; exact h) HMAY.out, fun _ => rfl⟩
            · exact HRL.out j (by omega)
    · have g3 : ¬ (i : Int) < (n : Int) := by omega
      obtain rfl : i = n := by omega
      have HOK := hid HC.out.ok
      clear HCK0 HCK3 HB3 HNEW HRZ
      go_wp2_with fail
      go_loopg [12] n2 (fun gk v12 wr => ∃ t : Nat, t + gk = n2 ∧ v12 = .int .i64 (t : Int) ∧ Hid (CkAt (q + 2) wr q (2 * i + 2 * t) s) ∧ Hid (Below w.heap.size w wr ∧ q + 2 ≤ wr.heap.size) ∧ Hid (wr.heap[g]? = some (.cells (ivals R).toArray 3 (0, 0))))
      case atStart => exact ⟨0, by omega, rfl, HC, HBW, HGR⟩
      case round =>
        clear HC HBW HGR
        obtain ⟨t, ht, rfl, HC, HBW, HGR⟩ := hrel
        by_cases hlt2 : t < n2
        · have g4 : (t : Int) < (n2 : Int) := by omega
          have g5 : (0 : Int) < (i : Int) := by omega
          have hr2 := HR2.out.below HBW.out.1
          have hcx : ∃ b2 off2, a2 = some ⟨b2, off2, none⟩ ∧ ∀ W : World, wr.cell? ⟨b2, off2 + t, none⟩ = some (.int .u8 (l2.getD t 0 : Nat)) := by
            rcases hr2.2 with h | ⟨b2, off2, e, _, hc⟩
            · have := HN2.out; rw [h] at this; simp at this; omega
            · exact ⟨b2, off2, e, fun _ => hc t (by rw [HN2.out]; exact hlt2)⟩
          obtain ⟨b2, off2, rfl, hcx⟩ := hcx
          have hcx := hcx wr
          have hx256 := getD_lt HR2.out.1 t
          obtain ⟨x, hx⟩ : ∃ x, l2.getD t 0 = x := ⟨_, rfl⟩
          rw [hx] at hcx hx256
          obtain ⟨k, hk⟩ : ∃ k, x % i = k := ⟨_, rfl⟩
          have hki : k < i := by rw [← hk]; exact Nat.mod_lt _ h0
          have gr : (x : Int) % (i : Int) = (k : Int) := by rw [← hk]; rfl
          have gr2 : Int.tmod (x : Int) (i : Int) = (k : Int) := by rw [Int.tmod_eq_emod_of_nonneg (by omega), gr]
          have gi0 : ((i : Int) == 0) = false := by simp; omega
          have hzc := (ints_cell HGR.out (i := k) (by rw [HRN.out]; exact hki)).1
          obtain ⟨b, off, rfl, ai, ci, hcell, hrow⟩ := HG.out.later (i := k) (by rw [HN.out]; exact hki)
          have hrl := HRL.out k hki
          obtain ⟨l, hl⟩ : ∃ l, ls.getD k [] = l := ⟨_, rfl⟩
          obtain ⟨z, hz⟩ : ∃ z, R.getD k 0 = z := ⟨_, rfl⟩
          have HL := hid hl
          rw [hl] at hcell hrow hrl
          rw [hz] at hzc hrl
          have HZ := hid hz
          obtain ⟨m, hm⟩ : ∃ m, l.length = m := ⟨_, rfl⟩
          have HM := hid hm
          rw [hm] at hcell
          have HCL := hid hcell
          have HROW := hid hrow
          have hc1 := hcell _ HBW.out.1
          have HX := hid (And.intro hx hk)
          clear hr2 hx hk hl hz hm hcell hrow
          by_cases hz0 : z = 0
          · subst hz0
            clear hrl
            go_wp2_with fail
            go_roundg (gk - 1)
            case measure => omega
            case rel => exact ⟨t + 1, by omega, by go_num, hid (HC.out.mono (by omega)), HBW, HGR⟩
          · have gz : (z == 0) = false := by simp [hz0]
            have hmay : May l := by
              by_cases h : May l
              · exact h
              · exact absurd (hrl.2 h) hz0
            obtain ⟨id, rfl, hmem⟩ := hrl.1 hmay
            have hpos := HOK.out.pos _ hmem
            have hmm : 1 ≤ m ∧ m ≤ 64 := by rw [← HM.out]; exact hmay
            have hidl : id ≤ i := Nat.le_trans hpos.2.1 hsl
            have hwf : (Lit.int .i64 (id : Int)).wf = true := i64_wf (by omega) (by omega)
            have kp := put_any HC.out ai l m ci HM.out (HROW.out _ HBW.out.1) (by omega) (by omega) HBW.out.2
            rw [put_some hmay (byText_mem HOK.out.txt hmem)] at kp
            have HBY := hid (byId_mem HOK.out.ids hmem)
            have KP := hid kp
            clear kp hrl hmay hmem hpos hz0
            go_wp2_with fail
            refine KP.out.mono ?_
            rintro e w5 ⟨rfl, h5, hc5⟩
            have hg5 := hc5.low_at HGR.out (by have := HGQ.out; omega) (by have := HGQ.out; omega)
            have HG5 := hid hg5
            have hb5 : Below w.heap.size w w5 := HBW.out.1.trans (hc5.below (by omega) (by omega) HBW.out.1.size)
            have HB5 := hid (And.intro hb5 (Nat.le_trans HBW.out.2 hc5.size))
            have hgc := (ints_cell hg5 (i := k) (by rw [HRN.out]; exact hki)).1
            rw [HZ.out] at hgc
            have H5 := hid h5
            clear hg5 h5 hc5 hb5 KP hzc hc1 hcx
            go_wp2_with fail
            refine (get_any H5.out (id : Int) hwf).mono ?_
            rintro e w6 ⟨v6, rfl, hgot, hb6⟩
            rw [HBY.out] at hgot ⊢
            obtain ⟨g6, c6, rfl, ho6⟩ := hgot
            have hb6w := HB5.out.1.trans (hb6.mono HB5.out.1.size)
            have HB6 := hid (And.intro hb6w (Nat.le_trans HB5.out.2 hb6.size))
            have H6 := hid (H5.out.below hb6)
            have HG6 := hid ((hb6.block g (lt_of_some HG5.out)).trans HG5.out)
            have hlt6 : ∀ x ∈ l, x < 256 := (HROW.out _ HBW.out.1).1
            have hr6 := (row_of_owns' rfl ho6 hlt6).2
            rw [HM.out] at ho6 ⊢
            simp only [Option.isSome_some]
            have hz6 := (Below.refl w6.heap.size w6).drew
            have hca : ∀ W, Below w6.heap.size w6 W → (convert 27 9 (.slice (some ⟨g6, 0, none⟩) m c6)).run Try.prog W = .ok (.string (strOf l)) W := fun W hW => str_any W _ l m c6 HM.out (hr6.below hW)
            have hcb : ∀ W, Below w6.heap.size w6 W → (convert 27 9 (.slice ai m ci)).run Try.prog W = .ok (.string (strOf l)) W := fun W hW => str_any W _ l m ci HM.out (HROW.out W (hb6w.trans (hW.mono hb6w.size)))
            have hcc : ∀ W, Below w6.heap.size w6 W → W.cell? ⟨b, off + k, none⟩ = some (.slice ai m ci) := fun W hW => HCL.out W (hb6w.trans (hW.mono hb6w.size))
            obtain ⟨S, hS⟩ : ∃ S, strOf l = S := ⟨_, rfl⟩
            rw [hS] at hca hcb
            clear hS hr6 ho6 hb6 hb6w hgc hlt6
            go_wp2_with fail
            go_region_held (fun W => Below w6.heap.size w6 W) (first | assumption) (fail)
            have H7 := hid (H6.out.below hz6)
            have HB7 := hid (And.intro (HB6.out.1.trans (hz6.mono HB6.out.1.size)) (Nat.le_trans HB6.out.2 hz6.size))
            have HG7 : Hid (w6.drew.heap[g]? = some (.cells (ivals R).toArray 3 (0, 0))) := HG6.out
            clear hca hcb hcc hz6
            go_wp2_with fail
            go_roundg (gk - 1)
            case measure => omega
            case rel => exact ⟨t + 1, by omega, by go_num, hid (H7.out.mono (by omega)), HB7, HG7⟩
        · have g4 : ¬ (t : Int) < (n2 : Int) := by omega
          obtain ⟨N, hN⟩ : ∃ N, 2 * i + 2 * t = N := ⟨_, rfl⟩
          have hN2 : N ≤ 1000000 := by omega
          rw [hN] at HC
          have hti : t = n2 := by omega
          clear hN
          go_wp2_with fail
          go_loopg [19] i (fun gk v19 wr => ∃ u : Nat, u + gk = i ∧ v19 = .int .i64 (u : Int) ∧ Hid (CkAt (q + 2) wr q N s) ∧ Hid (Below w.heap.size w wr ∧ q + 2 ≤ wr.heap.size) ∧ Hid (wr.heap[g]? = some (.cells (ivals R).toArray 3 (0, 0))))
          case atStart => exact ⟨0, by omega, rfl, HC, HBW, HGR⟩
          case round =>
            clear HC HBW HGR
            obtain ⟨u, hu, rfl, HC, HBW, HGR⟩ := hrel
            by_cases hlt3 : u < i
            · have g5 : (u : Int) < (i : Int) := by omega
              obtain ⟨G, hG⟩ : ∃ G, G = gk := ⟨_, rfl⟩
              subst hG
              go_wp2_with fail
              go_loopg [20] u (fun gk v20 wr => ∃ k : Nat, k + gk = u ∧ v20 = .int .i64 (k : Int) ∧ Hid (CkAt (q + 2) wr q N s) ∧ Hid (Below w.heap.size w wr ∧ q + 2 ≤ wr.heap.size) ∧ Hid (wr.heap[g]? = some (.cells (ivals R).toArray 3 (0, 0))))
              case atStart => exact ⟨0, by omega, rfl, HC, HBW, HGR⟩
              case round =>
                clear HC HBW HGR
                obtain ⟨k, hk, rfl, HC, HBW, HGR⟩ := hrel
                by_cases hlt4 : k < u
                · have g6 : (k : Int) < (u : Int) := by omega
                  have g7 : (k : Int) < (i : Int) := by omega
                  have hcu0 := (ints_cell HGR.out (i := u) (by rw [HRN.out]; exact hlt3)).1
                  have hck0 := (ints_cell HGR.out (i := k) (by rw [HRN.out]; omega)).1
                  have hru := HRL.out u hlt3
                  have hrk := HRL.out k (by omega)
                  obtain ⟨zu, hzu⟩ : ∃ z, R.getD u 0 = z := ⟨_, rfl⟩
                  obtain ⟨zk, hzk⟩ : ∃ z, R.getD k 0 = z := ⟨_, rfl⟩
                  rw [hzu] at hcu0 hru
                  rw [hzk] at hck0 hrk
                  clear hzu hzk
                  have hqq : ∀ nq, Below wr.heap.size wr (wr.drewN nq) := fun nq => ⟨rfl, rfl, rfl, Nat.le_refl _, fun _ _ => rfl⟩
                  by_cases hzu0 : 0 < zu
                  · by_cases hzk0 : 0 < zk
                    · have hmu : May (ls.getD u []) := by
                        by_cases h : May (ls.getD u [])
                        · exact h
                        · have := hru.2 h; omega
                      have hmk : May (ls.getD k []) := by
                        by_cases h : May (ls.getD k [])
                        · exact h
                        · have := hrk.2 h; omega
                      obtain ⟨iu, hiu, hmemu⟩ := hru.1 hmu
                      obtain ⟨ik, hik, hmemk⟩ := hrk.1 hmk
                      have hiff : zu = zk ↔ ls.getD u [] = ls.getD k [] := by
                        constructor
                        · intro h
                          have e1 := byId_mem HOK.out.ids hmemu
                          have e2 := byId_mem HOK.out.ids hmemk
                          simp only at e1 e2
                          rw [← hiu, h, hik, e2] at e1
                          exact (Option.some.inj e1).symm
                        · intro h
                          have e1 := byText_mem HOK.out.txt hmemu
                          have e2 := byText_mem HOK.out.txt hmemk
                          simp only at e1 e2
                          rw [h, e2] at e1
                          have := Option.some.inj e1
                          omega
                      obtain ⟨b, off, ha, au, cu, hcellu, hrowu⟩ := HG.out.later (i := u) (by rw [HN.out]; exact hlt3)
                      obtain ⟨b', off', ha', ak, ck, hcellk, hrowk⟩ := HG.out.later (i := k) (by rw [HN.out]; omega)
                      rw [ha] at ha'
                      simp only [Option.some.injEq, Addr.mk.injEq] at ha'
                      obtain ⟨rfl, rfl, _⟩ := ha'
                      subst ha
                      obtain ⟨lu, hlu⟩ : ∃ l, ls.getD u [] = l := ⟨_, rfl⟩
                      obtain ⟨lk, hlk⟩ : ∃ l, ls.getD k [] = l := ⟨_, rfl⟩
                      rw [hlu] at hcellu hrowu hiff
                      rw [hlk] at hcellk hrowk hiff
                      have hsame := strs_same lu lk (hrowu _ HBW.out.1).1 (hrowk _ HBW.out.1).1
                      have hcu : ∀ W, Below wr.heap.size wr W → W.cell? ⟨b, off + u, none⟩ = some (.slice au lu.length cu) := fun W hW => hcellu W (HBW.out.1.trans (hW.mono HBW.out.1.size))
                      have hck : ∀ W, Below wr.heap.size wr W → W.cell? ⟨b, off + k, none⟩ = some (.slice ak lk.length ck) := fun W hW => hcellk W (HBW.out.1.trans (hW.mono HBW.out.1.size))
                      have hsu : ∀ W, Below wr.heap.size wr W → (convert 27 9 (.slice au lu.length cu)).run Try.prog W = .ok (.string (strOf lu)) W := fun W hW => str_any W _ lu _ cu rfl (hrowu W (HBW.out.1.trans (hW.mono HBW.out.1.size)))
                      have hsk : ∀ W, Below wr.heap.size wr W → (convert 27 9 (.slice ak lk.length ck)).run Try.prog W = .ok (.string (strOf lk)) W := fun W hW => str_any W _ lk _ ck rfl (hrowk W (HBW.out.1.trans (hW.mono HBW.out.1.size)))
                      have hglt := lt_of_some HGR.out
                      have hfu : ∀ W, Below wr.heap.size wr W → W.cell? ⟨g, u, none⟩ = some (.int .i64 zu) := fun W hW => (hW.cell (p := ⟨g, u, none⟩) hglt).trans hcu0
                      have hfk : ∀ W, Below wr.heap.size wr W → W.cell? ⟨g, k, none⟩ = some (.int .i64 zk) := fun W hW => (hW.cell (p := ⟨g, k, none⟩) hglt).trans hck0
                      obtain ⟨Su, hSu⟩ : ∃ S, strOf lu = S := ⟨_, rfl⟩
                      obtain ⟨Sk, hSk⟩ : ∃ S, strOf lk = S := ⟨_, rfl⟩
                      rw [hSu] at hsu hsame
                      rw [hSk] at hsk hsame
                      obtain ⟨mu, hmue⟩ : ∃ m, lu.length = m := ⟨_, rfl⟩
                      obtain ⟨mk, hmke⟩ : ∃ m, lk.length = m := ⟨_, rfl⟩
                      rw [hmue] at hcu hsu
                      rw [hmke] at hck hsk
                      clear hru hrk hmu hmk hiu hik hmemu hmemk hcellu hcellk hrowu hrowk hlu hlk hSu hSk hmue hmke hglt hcu0 hck0
                      by_cases he : lu = lk
                      · have e1 : (zu == zk) = true := by simp [hiff.2 he]
                        have e2 : (Su.toList == Sk.toList) = true := by rw [hsame]; simp [he]
                        clear hsame hiff he
                        have hz6 := (Below.refl wr.heap.size wr).drew
                        clear hqq
                        go_wp2_with fail
                        go_region_held (fun W => Below wr.heap.size wr W) (first | assumption) (fail)
                        have H7 := hid (HC.out.below hz6)
                        have HB7 := hid (And.intro (HBW.out.1.trans (hz6.mono HBW.out.1.size)) (Nat.le_trans HBW.out.2 hz6.size))
                        have HG7 : Hid (wr.drew.heap[g]? = some (.cells (ivals R).toArray 3 (0, 0))) := HGR.out
                        clear hz6 hfu hfk hcu hck hsu hsk
                        go_wp2_with fail
                        go_roundg (gk - 1)
                        case measure => omega
                        case rel => exact ⟨k + 1, by omega, by go_num, H7, HB7, HG7⟩
                      · have e1 : (zu == zk) = false := by simp only [beq_eq_false_iff_ne]; exact fun h => he (hiff.1 h)
                        have e2 : (Su.toList == Sk.toList) = false := by rw [hsame]; simp [he]
                        clear hsame hiff he
                        have hz6 := (Below.refl wr.heap.size wr).drew
                        clear hqq
                        go_wp2_with fail
                        go_region_held (fun W => Below wr.heap.size wr W) (first | assumption) (fail)
                        have H7 := hid (HC.out.below hz6)
                        have HB7 := hid (And.intro (HBW.out.1.trans (hz6.mono HBW.out.1.size)) (Nat.le_trans HBW.out.2 hz6.size))
                        have HG7 : Hid (wr.drew.heap[g]? = some (.cells (ivals R).toArray 3 (0, 0))) := HGR.out
                        clear hz6 hfu hfk hcu hck hsu hsk
                        go_wp2_with fail
                        go_roundg (gk - 1)
                        case measure => omega
                        case rel => exact ⟨k + 1, by omega, by go_num, H7, HB7, HG7⟩
                    · clear hru hrk
                      have gdu : decide ((0 : Int) < zu) = true := by simp [hzu0]
                      have gdk : decide ((0 : Int) < zk) = false := by simp; omega
                      go_wp2_with fail
                      go_quiet (fail)
                      have H7 := hid (HC.out.below (hqq nq))
                      have HB7 := hid (And.intro (HBW.out.1.trans ((hqq nq).mono HBW.out.1.size)) (Nat.le_trans HBW.out.2 (hqq nq).size))
                      have HG7 : Hid ((wr.drewN nq).heap[g]? = some (.cells (ivals R).toArray 3 (0, 0))) := HGR.out
                      clear hqq
                      go_wp2_with fail
                      go_roundg (gk - 1)
                      case measure => omega
                      case rel => exact ⟨k + 1, by omega, by go_num, H7, HB7, HG7⟩
                  · clear hru hrk
                    have gdu : decide ((0 : Int) < zu) = false := by simp; omega
                    go_wp2_with fail
                    go_quiet (fail)
                    have H7 := hid (HC.out.below (hqq nq))
                    have HB7 := hid (And.intro (HBW.out.1.trans ((hqq nq).mono HBW.out.1.size)) (Nat.le_trans HBW.out.2 (hqq nq).size))
                    have HG7 : Hid ((wr.drewN nq).heap[g]? = some (.cells (ivals R).toArray 3 (0, 0))) := HGR.out
                    clear hqq
                    go_wp2_with fail
                    go_roundg (gk - 1)
                    case measure => omega
                    case rel => exact ⟨k + 1, by omega, by go_num, H7, HB7, HG7⟩
                · have g6 : ¬ (k : Int) < (u : Int) := by omega
                  go_wp2_with fail
                  go_roundg (G - 1)
                  case measure => omega
                  case rel => exact ⟨u + 1, by omega, by go_num, HC, HBW, HGR⟩
            · have g5 : ¬ (u : Int) < (i : Int) := by omega
              go_wp2_with fail
              refine (size_any HC.out hN2).mono ?_
              rintro e w9 ⟨rfl, hb9⟩
              have HB9 := hid (HBW.out.1.trans (hb9.mono HBW.out.1.size))
              clear hb9
              obtain ⟨Z, hZ⟩ : ∃ Z, bytes s.ps = Z := ⟨_, rfl⟩
              rw [hZ]
              clear hZ
              go_wp2_with fail
              go_ret
              exact ⟨rfl, HB9.out⟩
end Go.Proofs.Ytenjhmlgimnnoaa
