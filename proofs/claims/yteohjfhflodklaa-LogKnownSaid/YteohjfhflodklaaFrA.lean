/- What the program's Size, number and Make answer. Condition: what comes in is at most nine hundred million bytes. -/
import Derived.Test.YteohjfhflodklaaFMath
import Derived.Laws.MakeOwn
namespace Go.Proofs.Yteohjfhflodklaa
open Go.RowKit Pen
open Crc (four nx run)
set_option maxRecDepth 4000
/-- A row of the call's own: from base on. -/
def Mine (base : Nat) (w : World) (g m cap : Nat) (L : List Nat) : Prop := L.length = m ∧ (∀ x ∈ L, x < 256) ∧ w.ownsRow base 5 1 (.slice (some ⟨g, 0, none⟩) m cap) m (vals L)
theorem Mine.below {base : Nat} {w w' : World} {g m cap : Nat} {L : List Nat} (h : Mine base w g m cap L) (hb : Below w.heap.size w w') : Mine base w' g m cap L := by
  refine ⟨h.1, h.2.1, h.2.2.1, ?_⟩
  rcases h.2.2.2 with h3 | ⟨g', cap', cur, e, hb', hg, hc⟩
  · exact .inl h3
  · exact .inr ⟨g', cap', cur, e, hb', (hb.block g' (Array.getElem?_eq_some_iff.1 hg).1).trans hg, hc⟩
theorem Mine.low {base b2 : Nat} {w : World} {g m cap : Nat} {L : List Nat} (h : Mine base w g m cap L) (hb : b2 ≤ base) : Mine b2 w g m cap L := ⟨h.1, h.2.1, owns_low h.2.2 hb⟩
theorem Mine.row {base : Nat} {w : World} {g m cap : Nat} {L : List Nat} (h : Mine base w g m cap L) : m ≤ cap ∧ Row w (some ⟨g, 0, none⟩) L := row_of_owns' h.1 h.2.2 h.2.1
theorem run_append_nothing (W : World) (ty : TypeId) (g m c : Nat) (h : m ≤ c) (a : Option Addr) (cap : Nat) :
    (Builtin.append_ #[40, 40] ty #[.slice (some ⟨g, 0, none⟩) m c, .slice a 0 cap]).run Try.prog W = .ok (.slice (some ⟨g, 0, none⟩) m c) W := by
  have hl : ∀ x : Addr, (loadCells x 0).run Try.prog W = .ok #[] W := fun x => run_loadCells_list (P := Try.prog) W x [] (by simp)
  cases a with
  | none => simp [Builtin.append_, run_underlying Try.underlying40, Builtin.lenOf, Builtin.firstCells, h, storeCells]
  | some x => simp [Builtin.append_, run_underlying Try.underlying40, Builtin.lenOf, Builtin.firstCells, h, storeCells, hl]
/-- An append of bytes, none among them, to a row of the call's own. -/
theorem Mine.app {base : Nat} {w : World} {g m cap : Nat} {L : List Nat} (h : Mine base w g m cap L) (ty : TypeId) (a : Option Addr) (l : List Nat) (n c : Nat) (hn : l.length = n) (hr : Row w a l) (k : Nat) (hk : m + n = k) (hsz : k ≤ 1000000000) (hbase : base ≤ w.heap.size) :
    ∃ g' cap' w', (Builtin.append_ #[40, 40] ty #[.slice (some ⟨g, 0, none⟩) m cap, .slice a n c]).run Try.prog w = .ok (.slice (some ⟨g', 0, none⟩) k cap') w' ∧ Mine base w' g' k cap' (L ++ l) ∧ Below base w w' := by
  subst hk
  by_cases hne : l = []
  · subst hne
    obtain rfl : 0 = n := hn
    exact ⟨g, cap, w, run_append_nothing w ty g m cap h.row.1 a c, by rw [List.append_nil]; exact h, Below.refl _ _⟩
  obtain ⟨hm, hlt, ho⟩ := h
  subst hm
  subst hn
  obtain ⟨g', cap', w', hrun, h2, h3, _⟩ := run_append_row w ty base _ L ho a l c hr hne hsz hbase
  rw [List.length_append] at hrun h2
  refine ⟨g', cap', w', hrun, ⟨List.length_append, fun x hx => ?_, h2⟩, (Below.refl base w).grown h3 hbase ?_⟩
  · rcases List.mem_append.1 hx with hx | hx
    · exact hlt x hx
    · exact hr.1 x hx
  · rcases ho.2 with ⟨e, _⟩ | ⟨g9, c9, cur, e, hb', _⟩
    · simp at e
    · intro k hk
      rw [e] at hk
      simp [Value.ownBlock] at hk
      omega
/-- An append of bytes, some of them, to nil. -/
theorem mine_nil {base : Nat} {w : World} (ty : TypeId) (a : Option Addr) (l : List Nat) (n c : Nat) (hn : l.length = n) (hr : Row w a l) (hne : l ≠ []) (hsz : n ≤ 1000000000) (hbase : base ≤ w.heap.size) :
    ∃ g' cap' w', (Builtin.append_ #[40, 40] ty #[.slice none 0 0, .slice a n c]).run Try.prog w = .ok (.slice (some ⟨g', 0, none⟩) n cap') w' ∧ Mine base w' g' n cap' l ∧ Below base w w' := by
  subst hn
  obtain ⟨g', cap', w', hrun, h2, h3, _⟩ := run_append_row w ty base (.slice none 0 0) [] (World.ownsRow_nil _ _ 5 1) a l c hr hne (by simp; omega) hbase
  rw [List.nil_append] at hrun h2
  exact ⟨g', cap', w', hrun, ⟨rfl, hr.1, h2⟩, (Below.refl base w).grown h3 hbase (fun k hk => by simp [Value.ownBlock] at hk)⟩
theorem mine_four (w : World) (c : Nat) (hc : c < 4294967296) : Mine w.heap.size (w.alloc (.cells (row8 (four c)) 5)) w.heap.size 4 4 (four c) :=
  ⟨rfl, Crc.four_lt hc, owns_row8 (heap_alloc_new _ _) (Nat.le_refl _) rfl (by decide)⟩
theorem mine_empty (w : World) : Mine w.heap.size (w.alloc (.cells #[] 5)) w.heap.size 0 0 [] := ⟨rfl, by simp, owns_empty w⟩
theorem step_appl {ops : Array Oper} {rest : List Oper} {op : Oper} {a : Act} {w : World} {Q : Exit → Act → World → Prop} (t : TypeId) (hgd : op.guard = none) (d s : Operand)
    (ho : op.op = .call { callee := .builtin .append, args := #[d, s], argTypes := #[t, t] }) (x y : Value) (hd : a.eval d = x) (hs : a.eval s = y) (v : Value) (w' : World) (hrun : (Builtin.append_ #[t, t] op.type #[x, y]).run Try.prog w = .ok v w')
    (h : wpList Try.prog ops Q rest (a.put op.dst v) w') : wpList Try.prog ops Q (op :: rest) a w :=
  wpList_plain hgd fun _ hK => by
    unfold Oper.wp execOp
    simp only [ho, resolve, invoke, builtin, Sem.run_bind, Sem.run_pure, Result.andThen_ok, List.map_toArray, List.map_cons, List.map_nil, hd, hs, hrun]
    exact hK _ _ h
theorem getD_lt {l : List Nat} (h : ∀ x ∈ l, x < 256) (i : Nat) : l.getD i 0 < 256 := by
  rw [List.getD_eq_getElem?_getD]
  by_cases hi : i < l.length
  · rw [List.getElem?_eq_getElem hi]; exact h _ (List.getElem_mem hi)
  · rw [List.getElem?_eq_none (by omega)]; decide
def siz (n : Int) : Int := if 1 ≤ n ∧ n ≤ 16384 then n + 16 else 0
theorem siz_yes {n : Int} (h : 1 ≤ n ∧ n ≤ 16384) : siz n = n + 16 := if_pos h
theorem siz_no {n : Int} (h : ¬ (1 ≤ n ∧ n ≤ 16384)) : siz n = 0 := if_neg h
theorem size_any (n : Int) (w : World) : Calls Try.prog 44 #[.int .i64 n] w fun e w' => e = .returned (.int .i64 (siz n)) ∧ w' = w := by
  by_cases h1 : n < 1
  · have HS : Hid (siz n = 0) := siz_no (by omega)
    go_enter Try.func44, Try.ntmps44
    go_wp2
    go_ret
    exact ⟨by rw [HS.out]; rfl, rfl⟩
  · by_cases h2 : 16384 < n
    · have HS : Hid (siz n = 0) := siz_no (by omega)
      go_enter Try.func44, Try.ntmps44
      go_wp2
      go_ret
      exact ⟨by rw [HS.out]; rfl, rfl⟩
    · have HS : Hid (siz n = 12 + n + 4) := by show _ = _; rw [siz_yes (by omega)]; omega
      go_enter Try.func44, Try.ntmps44
      go_wp2
      go_ret
      exact ⟨by rw [HS.out]; rfl, rfl⟩
theorem number_any (a : Option Addr) (l : List Nat) (n cap : Nat) (hn : l.length = n) (hcap : n ≤ cap) (h4 : 4 ≤ n) (w : World) (hr : Row w a l) :
    Calls Try.prog 64 #[.slice a n cap] w fun e w' => e = .returned (.int .i64 (le (l.take 4) : Nat)) ∧ w' = w := by
  obtain ⟨b, off, rfl, hbl, hcell⟩ : ∃ b off, a = some ⟨b, off, none⟩ ∧ b < w.heap.size ∧ ∀ i, i < l.length → w.cell? ⟨b, off + i, none⟩ = some (.int .u8 (l.getD i 0 : Nat)) := by
    rcases hr.2 with h | h
    · rw [h] at hn; simp at hn; omega
    · exact h
  have ht : ∀ x ∈ l.take 4, x < 256 := fun x hx => hr.1 x (List.mem_of_mem_take hx)
  have htl : (l.take 4).length = 4 := by rw [List.length_take]; omega
  have HC : Hid (∀ i, i < 4 → w.cell? ⟨b, off + i, none⟩ = some (.int .u8 ((l.take 4).getD i 0 : Nat))) := fun i hi => by
    rw [getD_take _ _ _ hi]; exact hcell i (by omega)
  have hsl : ∀ w, (Instr.slice 40 (.slice (some ⟨b, off, none⟩) n cap) none (some (.int .i64 4)) none).run Try.prog w = .ok (.slice (some ⟨b, off, none⟩) 4 cap) w := fun w => slice_to w _ n cap 4 (by omega)
  have HT := hid ht
  have HTL := hid htl
  have hlt := le_lt (l.take 4) ht
  rw [htl] at hlt
  have HW : Hid (le (l.take 4) < 4294967296) := by
    have e : (256 : Nat) ^ 4 = 4294967296 := by decide
    show _ < _
    omega
  clear ht htl hcell hr hn hbl hlt
  generalize l.take 4 = t at *
  go_enter Try.func64, Try.ntmps64
  go_wp2_with fail
  go_loopg [3, 9] 4 (fun k v3 v9 wr => ∃ i : Nat, i + k = 4 ∧ v9 = .int .i64 (i : Int) ∧ v3 = .int .u32 (le (t.take i) : Nat) ∧ wr = w)
  case atStart => exact ⟨0, rfl, rfl, rfl, rfl⟩
  case round =>
    obtain ⟨i, hi, rfl, rfl, rfl⟩ := hrel
    have HI := hid hi
    by_cases hi4 : i < 4
    · have hii : (i : Int) < 4 := by omega
      have hc := HC.out i hi4
      have hor := last_or t i HT.out hi4 HTL.out
      have hB := getD_lt HT.out i
      generalize t.getD i 0 = x at *
      generalize le (t.take i) = K0 at *
      generalize hK1 : le (t.take (i + 1)) = K1 at *
      have HK1 := hid hK1
      have hw1 := wrap_u32 x (by omega)
      have hw2 : IntKind.i64.wrap (8 * (i : Int)) = 8 * (i : Int) := by have := wrap_i64 (8 * i) (by omega); simpa using this
      have HOR := hid hor
      clear hK1 hor hi
      go_wp2_with fail
      go_roundg (gk - 1)
      case measure => have := HI.out; omega
      case rel =>
        refine ⟨i + 1, by have := HI.out; omega, by go_num, ?_, rfl⟩
        rw [HK1.out]
        first
          | exact congrArg (Value.int .u32) HOR.out
          | (rw [show (8 * (i : Int)).toNat = 8 * i by omega, HOR.out])
    · have hii : ¬ (i : Int) < 4 := by omega
      obtain rfl : i = 4 := by omega
      rw [List.take_of_length_le (by rw [HTL.out]; exact Nat.le_refl _)]
      clear hi HI
      generalize hKe : le t = K at HW ⊢
      have HKe := hid hKe
      have hK := HW.out
      clear hKe
      go_wp2_with fail
      go_ret
      exact ⟨by rw [HKe.out]; rfl, rfl⟩
theorem next_n (c : Nat) (hc : c < 4294967296) (a : Option Addr) (l : List Nat) (n cap : Nat) (hn : l.length = n) (w : World) (hr : Row w a l) (hl : n ≤ 1000000) :
    Calls Try.prog 45 #[.int .u32 (c : Int), .slice a n cap] w fun e w' => e = .returned (.int .u32 (nx c l : Nat)) ∧ Below w.heap.size w w' := by
  subst hn
  exact Crc.next_any c hc a l cap w hr hl
/-- What crc.Bytes hands out, and what lay there ahead of it. -/
theorem bytes4 (c : Nat) (hc : c < 4294967296) (w : World) :
    Calls Try.prog 46 #[.int .u32 (c : Int)] w fun e w' => ∃ y, e = .returned (.slice (some ⟨y, 0, none⟩) 4 4) ∧ Row w' (some ⟨y, 0, none⟩) (four c) ∧ Below w.heap.size w w' := by
  refine (Crc.bytes_any c hc w).mono ?_
  rintro e w' ⟨rfl, hw⟩
  refine ⟨w.heap.size, rfl, ?_, ?_⟩
  · rw [hw]; exact row_new w (four c) (Crc.four_lt hc) 5 (0, 0)
  · rw [hw]; exact (Below.refl _ _).alloc (Nat.le_refl _) _
theorem make_own (w : World) (n : Nat) (hn : n ≤ 1000000) : ∃ w', (Instr.makeSlice 40 (.int .i64 0) (.int .i64 (n : Int))).run Try.prog w = .ok (.slice (some ⟨w.heap.size, 0, none⟩) 0 n) w' ∧ Mine w.heap.size w' w.heap.size 0 n [] ∧ Below w.heap.size w w' := by
  obtain ⟨i5, hi5, hz5, hs5, hy5⟩ := info5'
  obtain ⟨w', h1, h2, h3⟩ := run_make_own (P := Try.prog) w w.heap.size 40 5 i5 (.int .u8 0) 1 Try.underlying40 hi5 hz5 hs5 .i64 .i64 n (by rw [hy5]; omega) (by unfold maxLen; omega) (Nat.le_refl _)
  exact ⟨w', h1, ⟨rfl, by simp, h2⟩, (Below.refl _ w).grown h3 (Nat.le_refl _) (fun k hk => by simp at hk)⟩
set_option maxHeartbeats 2000000 in
theorem make_no (last n cap : Nat) (boot : Int) (a : Option Addr) (w : World) (h : ¬ ((1 ≤ n ∧ n ≤ 16384) ∧ 0 ≤ boot ∧ boot ≤ 2147483647)) :
    Calls Try.prog 29 #[.int .u32 (last : Int), .int .i64 boot, .slice a n cap] w fun e w' => e = .returned (.tuple #[.slice none 0 0, .int .u32 0, .int .i64 1]) ∧ w' = w := by
  have HK := hid (size_any (n : Int) w)
  by_cases hn : 1 ≤ n ∧ n ≤ 16384
  · rw [siz_yes (by omega)] at HK
    by_cases hb : boot < 0
    · have hs : ((n : Int) + 16 == 0) = false := by simp; omega
      clear h
      go_enter Try.func29, Try.ntmps29
      go_wp2_with fail
      refine HK.out.mono ?_
      rintro e w1 ⟨rfl, rfl⟩
      go_wp2_with fail
      go_ret3
      exact ⟨rfl, rfl⟩
    · have hb2 : 2147483647 < boot := by omega
      clear h
      go_enter Try.func29, Try.ntmps29
      go_wp2_with fail
      refine HK.out.mono ?_
      rintro e w1 ⟨rfl, rfl⟩
      go_wp2_with fail
      go_ret3
      exact ⟨rfl, rfl⟩
  · rw [siz_no (by omega)] at HK
    clear h hn
    go_enter Try.func29, Try.ntmps29
    go_wp2_with fail
    refine HK.out.mono ?_
    rintro e w1 ⟨rfl, rfl⟩
    go_wp2_with fail
    go_ret3
    exact ⟨rfl, rfl⟩
set_option maxRecDepth 10000 in
set_option maxHeartbeats 4000000 in
theorem make_any (last boot : Nat) (a : Option Addr) (l : List Nat) (n cap : Nat) (w : World) (hlast : last < 4294967296) (hboot : boot < 2147483648) (hn : l.length = n) (h1 : 1 ≤ n) (h2 : n ≤ 16384) (hr : Row w a l) :
    Calls Try.prog 29 #[.int .u32 (last : Int), .int .i64 (boot : Int), .slice a n cap] w fun e w' => ∃ g cap', e = .returned (.tuple #[.slice (some ⟨g, 0, none⟩) (n + 16) cap', .int .u32 (nx last l : Nat), .int .i64 0]) ∧ Mine w.heap.size w' g (n + 16) cap' (mk last boot l) ∧ Below w.heap.size w w' := by
  have HK := hid (size_any (n : Int) w)
  rw [siz_yes (by omega), show (n : Int) + 16 = ((n + 16 : Nat) : Int) by omega] at HK
  have HN := hid (next_n last hlast a l n cap hn w hr (by omega))
  have HX := hid (Crc.nx_lt last l)
  have HMK : Hid (mk last boot l = ((((([] ++ four n) ++ four boot) ++ four (nx last (([] ++ four n) ++ four boot))) ++ l) ++ four (nx last l))) := by
    show _ = _
    rw [mk, hn]; simp only [List.nil_append, List.append_assoc]
  have HR := hid hr
  have HLN := hid hn
  have HLA := hid hlast
  have HBO := hid hboot
  generalize nx last l = X at *
  obtain ⟨m, hm⟩ : ∃ m, n + 16 = m := ⟨_, rfl⟩
  rw [hm] at HK ⊢
  have hm2 : m ≤ 16400 := by omega
  have hm0 : ((m : Int) == 0) = false := by simp; omega
  have hb0 : ¬ (boot : Int) < 0 := by omega
  have hb1 : ¬ (2147483647 : Int) < (boot : Int) := by omega
  have HM := hid (And.intro hm (And.intro h1 h2))
  clear hr hn hlast hm h1 hboot
  go_enter Try.func29, Try.ntmps29
  go_wp2_with fail
  refine HK.out.mono ?_
  rintro e w1 ⟨rfl, rfl⟩
  go_wp2_with fail
  refine HN.out.mono ?_
  rintro e w2 ⟨rfl, hb2⟩
  obtain ⟨w3, hmk, hmi3, hb3⟩ := make_own w2 m (by omega)
  have HB3 := hid (hb2.trans (hb3.mono hb2.size))
  have HM3 := hid (hmi3.low hb2.size)
  clear hb2 hb3 hmi3 HK HN
  go_wp2_with fail
  generalize w2.heap.size = g3 at *
  clear hmk
  refine (bytes4 n (by omega) w3).mono ?_
  rintro e w4 ⟨y4, rfl, hr4, hb4⟩
  obtain ⟨g5, c5, w5, hrun5, hm5, hb5⟩ := (HM3.out.below hb4).app 40 _ (four n) 4 4 rfl hr4 4 rfl (by decide) (Nat.le_trans HB3.out.size hb4.size)
  have HB5 := hid ((HB3.out.trans (hb4.mono HB3.out.size)).trans hb5)
  have HM5 := hid hm5
  have HR5 := hid hrun5
  clear hr4 hb4 hrun5 hm5 hb5 HM3 HB3
  have tok : True := trivial
  go_wp2_with (at_builtin; have _t := tok; refine step_appl 40 rfl _ _ rfl _ _ rfl rfl _ w5 HR5.out ?_; clear tok)
  clear HR5
  refine (bytes4 boot (by have := HBO.out; omega) w5).mono ?_
  rintro e w6 ⟨y6, rfl, hr6, hb6⟩
  obtain ⟨g7, c7, w7, hrun7, hm7, hb7⟩ := (HM5.out.below hb6).app 40 _ (four boot) 4 4 rfl hr6 8 rfl (by decide) (Nat.le_trans HB5.out.size hb6.size)
  have HB7 := hid ((HB5.out.trans (hb6.mono HB5.out.size)).trans hb7)
  have HM7 := hid hm7
  have HR7 := hid hrun7
  clear hr6 hb6 hrun7 hm7 hb7 HM5 HB5
  have tok : True := trivial
  go_wp2_with (at_builtin; have _t := tok; refine step_appl 40 rfl _ _ rfl _ _ rfl rfl _ w7 HR7.out ?_; clear tok)
  clear HR7
  refine (next_n last HLA.out _ _ 8 c7 HM7.out.1 w7 HM7.out.row.2 (by decide)).mono ?_
  rintro e w8 ⟨rfl, hb8⟩
  have HX8 := hid (Crc.nx_lt last (([] ++ four n) ++ four boot))
  generalize hS : nx last (([] ++ four n) ++ four boot) = S at *
  clear hS
  have HM8 := hid (HM7.out.below hb8)
  have HB8 := hid (HB7.out.trans (hb8.mono HB7.out.size))
  clear hb8 HM7 HB7
  go_wp2_with fail
  refine (bytes4 S HX8.out w8).mono ?_
  rintro e w9 ⟨y9, rfl, hr9, hb9⟩
  obtain ⟨gA, cA, wA, hrunA, hmA, hbA⟩ := (HM8.out.below hb9).app 40 _ (four S) 4 4 rfl hr9 12 rfl (by decide) (Nat.le_trans HB8.out.size hb9.size)
  have HBA := hid ((HB8.out.trans (hb9.mono HB8.out.size)).trans hbA)
  obtain ⟨gB, cB, wB, hrunB, hmB, hbB⟩ := hmA.app 40 a l n cap HLN.out (HR.out.below HBA.out) (12 + n) rfl (by omega) HBA.out.size
  have HBB := hid (HBA.out.trans hbB)
  have HMB := hid hmB
  have HRA := hid hrunA
  have HRB := hid hrunB
  clear hr9 hb9 hrunA hrunB hmA hmB hbA hbB HM8 HB8
  have tokA : True := trivial
  have tokB : True := trivial
  go_wp2_with (first | (at_builtin; have _t := tokA; refine step_appl 40 rfl _ _ rfl _ _ rfl rfl _ wA HRA.out ?_; clear tokA) | (at_builtin; have _t := tokB; refine step_appl 40 rfl _ _ rfl _ _ rfl rfl _ wB HRB.out ?_; clear tokB))
  clear HRA HRB HBA
  refine (bytes4 X HX.out wB).mono ?_
  rintro e wC ⟨yC, rfl, hrC, hbC⟩
  obtain ⟨gD, cD, wD, hrunD, hmD, hbD⟩ := (HMB.out.below hbC).app 40 _ (four X) 4 4 rfl hrC m (by have := HM.out; omega) (by omega) (Nat.le_trans HBB.out.size hbC.size)
  have HBD := hid ((HBB.out.trans (hbC.mono HBB.out.size)).trans hbD)
  have HMD := hid hmD
  have HRD := hid hrunD
  clear hrC hbC hrunD hmD hbD HMB HBB
  have tok : True := trivial
  go_wp2_with (at_builtin; have _t := tok; refine step_appl 40 rfl _ _ rfl _ _ rfl rfl _ wD HRD.out ?_; clear tok)
  go_ret3
  refine ⟨gD, cD, rfl, ?_, HBD.out⟩
  rw [HMK.out]
  exact HMD.out
end Go.Proofs.Yteohjfhflodklaa
