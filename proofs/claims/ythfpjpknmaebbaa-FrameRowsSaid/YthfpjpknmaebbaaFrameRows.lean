/- FrameRows: frames one behind another, each behind the last of the one ahead, are read one by one; none of them elsewhere in the row. No condition. -/
import Derived.Test.YthfpjpknmaebbaaGrid
namespace Go.Proofs.Ythfpjpknmaebbaa
open Go.ChangeShapes Go.WideShapes Go.ChangeAt Go.RowKit Pen
open Crc (four nx run)
set_option maxRecDepth 4000
def lastOf (c : Nat) (ls : List (List Nat)) : Nat := ls.foldl nx c
def rowsF (boot : Nat) : Nat → List (List Nat) → List Nat
  | _, [] => []
  | c, r :: rs => mk c boot r ++ rowsF boot (nx c r) rs
theorem rowsF_app (boot : Nat) : ∀ (l m : List (List Nat)) (c : Nat), rowsF boot c (l ++ m) = rowsF boot c l ++ rowsF boot (lastOf c l) m
  | [], _, _ => rfl
  | r :: l, m, c => by
    show mk c boot r ++ rowsF boot (nx c r) (l ++ m) = (mk c boot r ++ rowsF boot (nx c r) l) ++ rowsF boot (lastOf (nx c r) l) m
    rw [rowsF_app boot l m (nx c r), List.append_assoc]
theorem take_snoc (ls : List (List Nat)) (i : Nat) (h : i < ls.length) : ls.take (i + 1) = ls.take i ++ [ls.getD i []] := by
  rw [List.take_succ_eq_append_getElem h]
  simp [h]
theorem drop_cons (ls : List (List Nat)) (i : Nat) (h : i < ls.length) : ls.drop i = ls.getD i [] :: ls.drop (i + 1) := by
  rw [List.drop_eq_getElem_cons h]
  simp [h]
theorem lastOf_snoc (ls : List (List Nat)) (i : Nat) (h : i < ls.length) : lastOf 0 (ls.take (i + 1)) = nx (lastOf 0 (ls.take i)) (ls.getD i []) := by
  rw [take_snoc ls i h, lastOf, List.foldl_append]; rfl
theorem rowsF_snoc (boot : Nat) (ls : List (List Nat)) (i : Nat) (h : i < ls.length) : rowsF boot 0 (ls.take (i + 1)) = rowsF boot 0 (ls.take i) ++ mk (lastOf 0 (ls.take i)) boot (ls.getD i []) := by
  rw [take_snoc ls i h, rowsF_app]
  show _ ++ (mk _ boot _ ++ []) = _
  rw [List.append_nil]
theorem rowsF_drop (boot : Nat) (ls : List (List Nat)) (i : Nat) (h : i < ls.length) (c : Nat) : rowsF boot c (ls.drop i) = mk c boot (ls.getD i []) ++ rowsF boot (nx c (ls.getD i [])) (ls.drop (i + 1)) := by
  rw [drop_cons ls i h]; rfl
theorem lastOf_lt (ls : List (List Nat)) (i : Nat) : lastOf 0 (ls.take i) < 4294967296 := by
  have : ∀ (l : List (List Nat)) (c : Nat), c < 4294967296 → lastOf c l < 4294967296 := by
    intro l
    induction l with
    | nil => intro c h; exact h
    | cons r l ih => intro c _; exact ih _ (Crc.nx_lt _ _)
  exact this _ 0 (by decide)
theorem up32 (X : Nat) : ∃ Y : Nat, Y < 4294967296 ∧ ((X : Int) + 1) % 4294967296 = (Y : Int) ∧ X ≠ Y := by
  refine ⟨(X + 1) % 4294967296, Nat.mod_lt _ (by decide), by omega, ?_⟩
  omega
/-- While the rows are written: what b and lasts hold. -/
structure RowsAt (w : World) (v5 v7 : Value) (L : List Nat) (i : Nat) (wr : World) : Prop where
  b : wr.ownsRow w.heap.size 5 1 v5 L.length (vals L)
  lt : ∀ x ∈ L, x < 256
  q : ∃ xs : List Value, wr.ownsRow w.heap.size 25 1 v7 i xs
  ne : ∀ k, v5.ownBlock = some k → v7.ownBlock ≠ some k
  low : Below w.heap.size w wr
/-- One frame more. -/
theorem RowsAt.more {w wr w1 : World} {v5 v7 : Value} {L f : List Nat} {i g m cap : Nat} (h : RowsAt w v5 v7 L i wr) (hi : i ≤ 1000) (hb : Below wr.heap.size wr w1) (hm : Mine wr.heap.size w1 g m cap f) (hf : f ≠ []) (hL : L.length + f.length ≤ 1000000000) (c : Int) :
    ∃ u7 w3 u5 w4, (Builtin.append_ #[40, 40] 40 #[v7, .slice (some ⟨w1.heap.size, 0, none⟩) 1 1]).run Try.prog (w1.alloc (.cells #[.int .u32 c] 25)) = .ok u7 w3 ∧
      (Builtin.append_ #[23, 23] 23 #[v5, .slice (some ⟨g, 0, none⟩) m cap]).run Try.prog w3 = .ok u5 w4 ∧ RowsAt w u5 u7 (L ++ f) (i + 1) w4 := by
  obtain ⟨xs, hq⟩ := h.q
  have hlow1 := h.low.trans (hb.mono h.low.size)
  have hb2 : Below w1.heap.size w1 (w1.alloc (.cells #[.int .u32 c] 25)) := (Below.refl _ _).alloc (Nat.le_refl _) _
  have hlow2 := hlow1.trans (hb2.mono hlow1.size)
  have hq2 := owns_below (owns_below hq hb) hb2
  have h52 := owns_below (owns_below h.b hb) hb2
  have hm2 := hm.below hb2
  obtain ⟨u7, w3, xs', r3, o3, g3, n3⟩ := app_u32 (w1.alloc (.cells #[.int .u32 c] 25)) 40 w.heap.size v7 i xs hq2 w1.heap.size c (heap_alloc_new _ _) (by omega) hlow2.size
  have hlow3 : Below w.heap.size w w3 := hlow2.grown g3 hlow2.size (fun k hk => (owns_lt hq hk).2)
  have h53 := owns_grown h52 g3 (fun k hk => h.ne k hk)
  have hg : ∀ k, v7.ownBlock = some k → k ≠ g := fun k hk => by
    have h1 := (owns_lt hq hk).1
    obtain ⟨_, h2, _⟩ := ownB_of hm.1 hm.2.2 hm.2.1
    omega
  have hf3 : Row w3 (some ⟨g, 0, none⟩) f := by
    have hm3 : w3.ownsRow wr.heap.size 5 1 (.slice (some ⟨g, 0, none⟩) m cap) m (vals f) := owns_grown hm2.2.2 g3 (fun k hk e => by
      simp [Value.ownBlock] at hk
      exact hg k e hk.symm)
    exact (row_of_owns' hm.1 hm3 hm.2.1).2
  have hlen := hm.1
  subst hlen
  obtain ⟨g4, cap4, w4, r4, o4, gr4, n4⟩ := run_append_row w3 23 w.heap.size v5 L h53 (some ⟨g, 0, none⟩) f cap hf3 hf hL hlow3.size
  refine ⟨u7, w3, _, w4, r3, r4, ⟨o4, ?_, ⟨xs', ?_⟩, ?_, ?_⟩⟩
  · intro x hx
    rcases List.mem_append.1 hx with hx | hx
    · exact h.lt x hx
    · exact hm.2.1 x hx
  · refine owns_grown o3 gr4 (fun k hk e => ?_)
    rcases n3 k hk with h7 | h7
    · exact h.ne k e h7
    · have := (owns_lt h52 e).1
      omega
  · intro k hk e
    simp [Value.ownBlock] at hk
    subst hk
    rcases n3 _ e with h7 | h7
    · rcases n4 with h5 | h5
      · exact h.ne _ h5 h7
      · have := (owns_lt hq2 h7).1
        have := g3.size
        omega
    · rcases n4 with h5 | h5
      · have := (owns_lt h52 h5).1
        omega
      · have := (owns_lt o3 e).1
        omega
  · exact hlow3.grown gr4 hlow3.size (fun k hk => (owns_lt h53 hk).2)
set_option maxRecDepth 20000 in
set_option maxHeartbeats 8000000 in
theorem frameRows_walk (a : Option Addr) (ls : List (List Nat)) (n cap boot : Nat) (w : World) (hn : ls.length = n) (hg : Grid w a ls) (hboot : boot < 256) :
    Calls Try.prog 6 #[.slice a n cap, .int .u8 (boot : Int)] w fun e w' => e = .returned (.bool true) ∧ Below w.heap.size w w' := by
  have HG := hid hg
  have HN := hid hn
  clear hg hn
  go_enter Try.func6, Try.ntmps6
  go_wp2_with fail
  refine (awake_any w).mono ?_
  rintro e w1 ⟨rfl, hb1⟩
  have HB1 := hid hb1
  clear hb1
  go_wp2_with fail
  go_loopg [5, 6, 7, 8] n (fun gk v5 v6 v7 v8 wr => ∃ (i : Nat), i + gk = n ∧ v8 = .int .i64 (i : Int) ∧ v6 = .int .u32 (lastOf 0 (ls.take i) : Nat) ∧ RowsAt w v5 v7 (rowsF boot 0 (ls.take i)) i wr ∧ i ≤ 41 ∧ (rowsF boot 0 (ls.take i)).length ≤ 516 * i ∧ ∀ j, j < i → 1 ≤ (ls.getD j []).length ∧ (ls.getD j []).length ≤ 500)
  case atStart => exact ⟨0, by omega, rfl, rfl, ⟨World.ownsRow_nil _ _ 5 1, by simp [rowsF], ⟨[], World.ownsRow_nil _ _ 25 1⟩, by intro k hk; simp [Value.ownBlock] at hk, HB1.out⟩, by omega, by simp [rowsF], fun j hj => by omega⟩
  case round =>
    obtain ⟨i, hi, rfl, rfl, hra, h41, hlen, hall⟩ := hrel
    have HRA := hid hra
    have HLE := hid hlen
    have HAL := hid hall
    have HC := hid (lastOf_lt ls i)
    clear hra hlen hall HB1
    by_cases hlt : i < n
    · have hii : (i : Int) < (n : Int) := by omega
      by_cases h40 : 40 < i
      · have q40 : (40 : Int) < (i : Int) := by omega
        have HLW := hid HRA.out.low
        generalize lastOf 0 (ls.take i) = C
        go_wp2_with fail
        go_ret
        exact ⟨rfl, HLW.out⟩
      have q40 : ¬ (40 : Int) < (i : Int) := by omega
      have hil : i < ls.length := by have := HN.out; omega
      obtain ⟨b, off, rfl, hcell⟩ := (HG.out.below HRA.out.low).at_ (by intro e; rw [e] at hil; simp at hil)
      obtain ⟨ai, ci, hc, hrow⟩ := hcell i hil
      have HRW := hid hrow
      have HSN := hid (And.intro (lastOf_snoc ls i hil) (rowsF_snoc boot ls i hil))
      clear hcell hrow
      generalize hr : ls.getD i [] = r at *
      have HR := hid hr
      clear hr
      obtain ⟨m, hm⟩ : ∃ m, r.length = m := ⟨_, rfl⟩
      rw [hm] at hc
      have HM := hid hm
      clear hm
      by_cases h1 : m < 1
      · have q1 : (m : Int) < 1 := by omega
        have HLW := hid HRA.out.low
        generalize lastOf 0 (ls.take i) = C
        go_wp2_with fail
        go_ret
        exact ⟨rfl, HLW.out⟩
      have q1 : ¬ (m : Int) < 1 := by omega
      by_cases h5 : 500 < m
      · have q5 : (500 : Int) < (m : Int) := by omega
        have HLW := hid HRA.out.low
        generalize lastOf 0 (ls.take i) = C
        go_wp2_with fail
        go_ret
        exact ⟨rfl, HLW.out⟩
      have q5 : ¬ (500 : Int) < (m : Int) := by omega
      generalize lastOf 0 (ls.take i) = C at *
      generalize rowsF boot 0 (ls.take i) = L at *
      go_wp2_with fail
      refine (make_any C boot ai r m ci wr HC.out (by omega) HM.out (by omega) (by omega) HRW.out).mono ?_
      rintro e w2 ⟨g2, c2, rfl, hm2, hb2⟩
      obtain ⟨k7, w3, k5, w4, r3, r4, hra4⟩ := HRA.out.more (by omega) hb2 hm2 (by intro e; have := hm2.1; rw [e] at this; simp at this) (by have := hm2.1; have := HLE.out; omega) (C : Int)
      have HR3 := hid r3
      have HR4 := hid r4
      have HA4 := hid hra4
      have HFL := hid hm2.1
      clear r3 r4 hra4 hm2 hb2 HRA HRW hc
      have tokA : True := trivial
      have tokB : True := trivial
      go_wp2_with (first | (at_builtin; have _t := tokA; refine step_appl 40 rfl _ _ rfl _ _ rfl rfl _ w3 HR3.out ?_; clear tokA) | (at_builtin; have _t := tokB; refine step_appl 23 rfl _ _ rfl _ _ rfl rfl _ w4 HR4.out ?_; clear tokB))
      go_roundg (gk - 1)
      case measure => omega
      case rel =>
        refine ⟨i + 1, by omega, by go_num, ?_, ?_, by omega, ?_, ?_⟩
        · rw [HSN.out.1]
        · rw [HSN.out.2]; exact HA4.out
        · rw [HSN.out.2, List.length_append, HFL.out]; have := HLE.out; omega
        · intro j hj
          rcases Nat.lt_succ_iff_lt_or_eq.1 hj with h | rfl
          · exact HAL.out j h
          · rw [HR.out, HM.out]; omega
    · have hii : ¬ (i : Int) < (n : Int) := by omega
      obtain rfl : i = n := by omega
      have ht : ls.take i = ls := List.take_of_length_le (by have := HN.out; omega)
      rw [ht] at HRA HLE HC ⊢
      obtain ⟨xs, hq⟩ := HRA.out.q
      obtain ⟨a7, c7, rfl⟩ := owns_slice hq
      obtain ⟨a5, c5, rfl, hc5, _, hr5⟩ := row_of_owns HRA.out.b HRA.out.lt
      have HLW := hid HRA.out.low
      have HR5 := hid hr5
      have HC5 := hid hc5
      obtain ⟨n5, hn5⟩ : ∃ n5, (rowsF boot 0 ls).length = n5 := ⟨_, rfl⟩
      rw [hn5] at HC5 ⊢
      have HN5 := hid hn5
      obtain ⟨CN, hCN⟩ : ∃ CN, lastOf 0 ls = CN := ⟨_, rfl⟩
      rw [hCN]
      have HCN := hid hCN
      clear hq hr5 hc5 HRA hn5 hCN ht
      go_wp2_with fail
      obtain ⟨wo, hwo⟩ : ∃ wo, wo = wr := ⟨_, rfl⟩
      subst hwo
      go_loopg [5, 12, 13] i (fun gk v5 v12 v13 wr => ∃ (j : Nat) (A : Option Addr) (m c : Nat), j + gk = i ∧ v13 = .int .i64 (j : Int) ∧ v12 = .int .u32 (lastOf 0 (ls.take j) : Nat) ∧ v5 = .slice A m c ∧ (rowsF boot (lastOf 0 (ls.take j)) (ls.drop j)).length = m ∧ m ≤ c ∧ Row wr A (rowsF boot (lastOf 0 (ls.take j)) (ls.drop j)) ∧ Below wo.heap.size wo wr)
      case atStart => exact ⟨0, a5, n5, c5, by omega, rfl, rfl, rfl, HN5.out, HC5.out, HR5.out, Below.refl _ _⟩
      case round =>
        obtain ⟨j, A, m, c, hj, rfl, rfl, rfl, hm, hmc, hrow, hbq⟩ := hrel
        have HM := hid hm
        have HROW := hid hrow
        have HBQ := hid hbq
        have HBW := hid (HLW.out.trans (hbq.mono HLW.out.size))
        have HCJ := hid (lastOf_lt ls j)
        clear hm hrow hbq HR5 HC5 HN5
        by_cases hjl : j < i
        · have hji : (j : Int) < (i : Int) := by omega
          have hil : j < ls.length := by have := HN.out; omega
          obtain ⟨b, off, rfl, hcell⟩ := (HG.out.below HBW.out).at_ (by intro e; rw [e] at hil; simp at hil)
          obtain ⟨ai, ci, hc, hri⟩ := hcell j hil
          have HRI := hid hri
          have HDR := hid (rowsF_drop boot ls j hil (lastOf 0 (ls.take j)))
          have HSN := hid (lastOf_snoc ls j hil)
          have HBD := hid (HAL.out j hjl)
          clear hcell hri
          generalize hr : ls.getD j [] = r at *
          generalize hCC : lastOf 0 (ls.take j) = C at *
          clear hr hCC
          obtain ⟨k, hk⟩ : ∃ k, r.length = k := ⟨_, rfl⟩
          rw [hk] at hc HBD
          have HK := hid hk
          clear hk
          rw [HDR.out] at HM HROW
          have HRD : Hid (rd C (mk C boot r ++ rowsF boot (nx C r) (ls.drop (j + 1))) = some (r, boot)) := rd_mk (by have := HK.out; have := HBD.out; omega) (by have := HK.out; have := HBD.out; omega) (by omega) _
          obtain ⟨C1, hC1, hC2, hC3⟩ := up32 C
          have HRO : Hid (rd C1 (mk C boot r ++ rowsF boot (nx C r) (ls.drop (j + 1))) = none) := rd_other HCJ.out hC1 hC3 (by have := HK.out; have := HBD.out; omega) (by omega) _
          have HC1 := hid hC1
          have HDL : Hid ((mk C boot r ++ rowsF boot (nx C r) (ls.drop (j + 1))).drop (k + 16) = rowsF boot (nx C r) (ls.drop (j + 1))) := List.drop_left' (by rw [mk_len, HK.out])
          have HLL : Hid ((rowsF boot (nx C r) (ls.drop (j + 1))).length + (k + 16) = m) := by
            have h := HM.out
            rw [List.length_append, mk_len, HK.out] at h
            show _ = _
            omega
          generalize mk C boot r ++ rowsF boot (nx C r) (ls.drop (j + 1)) = Z at *
          generalize hX : nx C r = X at *
          have HX := hid hX
          clear hC1 hC3 hX
          go_wp2_with fail
          refine (read_any C A Z m c wr HCJ.out HM.out hmc HROW.out).mono ?_
          rintro e w8 ⟨hrd, hb8⟩
          rw [HRD.out] at hrd
          obtain ⟨a8, n8, c8, rfl, hn8, hr8⟩ := readen_some hrd
          obtain rfl : k = n8 := HK.out.symm.trans hn8
          rw [HX.out]
          have HB8 := hid (HBQ.out.trans (hb8.mono HBQ.out.size))
          have HW8 := hid (HBW.out.trans (hb8.mono HBW.out.size))
          have hri8 := HRI.out.below hb8
          have s1 : ∀ t, (convert 23 9 (.slice a8 k c8)).run Try.prog (w8.drewN t) = .ok (.string (strOf r)) (w8.drewN t) := fun t => str_any _ _ _ _ _ HK.out ⟨hr8.1, hr8.2⟩
          have s2 : ∀ t, (convert 23 9 (.slice ai k ci)).run Try.prog (w8.drewN t) = .ok (.string (strOf r)) (w8.drewN t) := fun t => str_any _ _ _ _ _ HK.out ⟨hri8.1, hri8.2⟩
          have c8' : w8.cell? ⟨b, off + j, none⟩ = some (.slice ai k ci) := (hb8.cell (p := ⟨b, off + j, none⟩) (block_lt_of_cell hc)).trans hc
          have HZ8 := hid (HROW.out.below hb8)
          generalize strOf r = SR at *
          clear hrd hb8 hn8 hr8 hri8 hc HBQ HBW HROW
          go_wp2_with fail
          go_quiet (fail)
          have HB9 : Hid (Below wo.heap.size wo (w8.drewN nq)) := ⟨HB8.out.os, HB8.out.tape, HB8.out.output, HB8.out.size, HB8.out.block⟩
          have HZ9 : Hid (Row (w8.drewN nq) A Z) := ⟨HZ8.out.1, HZ8.out.2⟩
          clear s1 s2 c8' HB8 HW8 HZ8
          generalize w8.drewN nq = w9 at *
          go_wp2_with fail
          refine (read_any C1 A Z m c w9 HC1.out HM.out hmc HZ9.out).mono ?_
          rintro e wA ⟨hrd, hbA⟩
          rw [HRO.out] at hrd
          obtain rfl := readen_none hrd
          have HBA := hid (HB9.out.trans (hbA.mono HB9.out.size))
          have HZA := hid (HZ9.out.below hbA)
          have ks : ∀ t, Calls Try.prog 11 #[.int .i64 (k : Int)] (wA.drewN t) fun e w' => e = .returned (.int .i64 ((k : Int) + 16)) ∧ w' = wA.drewN t := fun t => by
            have h := size_any (k : Int) (wA.drewN t)
            rw [siz_yes (by have := HBD.out; omega)] at h
            exact h
          have hsf : ∀ w, (Instr.slice 23 (.slice A m c) (some (.int .i64 ((k : Int) + 16))) none none).run Try.prog w = .ok (.slice (fromA A (k + 16) c) (m - (k + 16)) (c - (k + 16))) w := fun w => slice_from w A m c (k + 16) (by have := HLL.out; omega)
          have HRF := hid (row_drop HZA.out (k + 16) c (by have := HM.out; omega))
          generalize fromA A (k + 16) c = A' at *
          clear hrd hbA HB9 HZ9 HZA
          go_wp2_with fail
          go_quiet (exact Calls.quiet_of_same (ks _))
          have HBB : Hid (Below wo.heap.size wo (wA.drewN nq)) := ⟨HBA.out.os, HBA.out.tape, HBA.out.output, HBA.out.size, HBA.out.block⟩
          have HRB : Hid (Row (wA.drewN nq) A' (Z.drop (k + 16))) := ⟨HRF.out.1, HRF.out.2⟩
          clear ks hsf HBA HRF
          generalize wA.drewN nq = wB at *
          go_wp2_with fail
          go_roundg (gk - 1)
          case measure => omega
          case rel =>
            refine ⟨j + 1, A', m - (k + 16), c - (k + 16), by omega, by go_num, ?_, rfl, ?_, by omega, ?_, HBB.out⟩
            · rw [HSN.out]
            · rw [HSN.out]; have := HLL.out; omega
            · rw [HSN.out, ← HDL.out]; exact HRB.out
        · have hji : ¬ (j : Int) < (i : Int) := by omega
          obtain rfl : j = i := by omega
          have ht : ls.take j = ls := List.take_of_length_le (by have := HN.out; omega)
          have hd : ls.drop j = [] := List.drop_of_length_le (by have := HN.out; omega)
          rw [hd] at HM
          obtain rfl : 0 = m := HM.out
          rw [ht, HCN.out]
          have HBE := hid HBW.out
          clear ht hd HM HROW HBQ HBW HCJ
          go_wp2_with fail
          go_ret
          exact ⟨rfl, HBE.out⟩
set_option linter.unusedVariables false
set_option maxRecDepth 100000 in
theorem frameRows_lifted (os : Os) (started : os.Started) (H : Type) (enc : TypeId × Value → H) :
    ReturnsInHanded {} Try.checked os 6 .any (Rows.frameRowsSpec.pre6 enc Try.prog Try.f6 Rows.frameRowsRow.domain false) (Rows.frameRowsSpec.post enc Try.prog Try.f6 false true false false) := by
  refine returnsInHanded_of_change (C := Try.checked) own started (by kernel_rfl) Try.func6
    (ChangeSpec.witness6 (enc := enc) (C := Try.checked) false ⟨#[], #[.slice none 0 0, .int .u8 0], []⟩ 8 (by kernel_rfl) (by kernel_rfl) (by kernel_rfl) (by kernel_rfl)) ?_
  intro W base args ds gs before hval0 hW hcnd _
  have hval : ∀ (j : Nat) t v, Try.f6.params[j]? = some t → args[j]? = some v → Value.okWide Try.prog W .any base t v := hval0
  have hW' := hW
  obtain ⟨p, q, hA0, hV, rfl, hfz, hnd⟩ := hW
  have hA : DataW.TrodAll enc Try.prog W 0 (fun _ => true) true Try.f6.params.toList args.toList ds p := hA0
  rw [Try.params6] at hA hval
  obtain ⟨v0, vs0, d0, ds0, p0, q0, hargs, rfl, rfl, h0, r0⟩ := trodAll_cons hA
  obtain ⟨v1, vs1, d1, ds1, p1, q1, rfl, rfl, rfl, h1, r1⟩ := trodAll_cons r0
  obtain ⟨rfl, rfl, rfl⟩ := trodAll_nil r1
  obtain rfl : args = #[v0, v1] := by cases args; simp_all
  obtain ⟨rfl, rfl⟩ := trodVars_none hV
  obtain ⟨a0, len0, cap0, rfl⟩ := okWide_slice Try.underlying39 (hval 0 39 v0 rfl rfl)
  have k0 := h0
  have lt0 : ∀ x ∈ p0, x.block < W.heap.size := by obtain ⟨m, hm⟩ := k0; exact DataW.trod_lt m _ _ _ hm
  obtain ⟨ls, hls, hgrid⟩ : ∃ ls : List (List Nat), ls.length = len0 ∧ Grid W a0 ls := by
    obtain ⟨fuel, hf⟩ := h0
    exact grid_of hf
  obtain ⟨a1, rfl, rfl, rfl, w1⟩ := open_int Try.underlying5 (hval 1 5 v1 rfl rfl) h1
  obtain ⟨n, rfl, hn⟩ : ∃ n : Nat, a1 = (n : Int) ∧ n < 256 := ⟨a1.toNat, by have := nat_u8 w1; omega, by have := nat_u8 w1; omega⟩
  clear hA0 hval0
  refine (frameRows_walk a0 ls len0 cap0 n W hls hgrid hn).mono fun e W' ⟨he, bel⟩ => ?_
  subst he
  exact ⟨_, rfl, _, _, _, [], _, [], hW', trodAll_mk1 (shut_bool Try.underlying4 _), (trodAll_cons_mk (Below.trod laidOut (by kernel_rfl) (of_decide_eq_true (by kernel_rfl)) k0 bel lt0) (trodAll_cons_mk (shut_int Try.underlying5 w1) trodAll_mk0)), rfl, bel.frame _, fun h => by cases h⟩
theorem frameRows_over : Rows.frameRowsRow.holds Try.pinned (OpenSpec.ofChange Rows.frameRowsSpec) :=
  OpenClaim.holds_of_wide 6 Try.f6 rfl rfl rfl rfl rfl rfl rfl ⟨rfl, rfl, rfl, rfl, rfl⟩ rfl rfl rfl rfl rfl (by kernel_rfl) Try.func6 (by kernel_rfl)
    (of_decide_eq_true (by kernel_rfl)) (by unfold Func.isWrapper; first | (rw [if_pos (by decide +kernel)]; kernel_rfl) | (rw [if_neg (by decide +kernel)]; exact ⟨rfl, rfl⟩))
    (fun os started H enc _ => frameRows_lifted os started H enc)
theorem frameRows_holds : Rows.FrameRowsSaid := frameRows_over
#print axioms frameRows_holds
end Go.Proofs.Ythfpjpknmaebbaa
