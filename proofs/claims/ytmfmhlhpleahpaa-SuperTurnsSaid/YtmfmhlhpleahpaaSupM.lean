/- What the document's own May answers. Condition: both lists together no longer than a thousand million. -/
import Derived.Test.YtmfmhlhpleahpaaSupL
import Derived.Deep.RegionHeldLaw
import Derived.Deep.QuietTactic
namespace Go.Proofs.Ytmfmhlhpleahpaa
open Go.RowKit Pen
open Crc (four nx)
theorem run_append_none (W : World) (ty : TypeId) (v : Value) (l1 : List Int) (base : Nat) (hown : W.ownsRow base 3 1 v l1.length (ivals l1)) (a : Option Addr) (cap : Nat) :
    (Builtin.append_ #[22, 22] ty #[v, .slice a 0 cap]).run Try.prog W = .ok v W := by
  have hl : ∀ x : Addr, (loadCells x 0).run Try.prog W = .ok #[] W := fun x => run_loadCells_list (P := Try.prog) W x [] (by simp)
  rcases hown.2 with ⟨rfl, h0⟩ | ⟨g, c, cur, rfl, _, _, h, _⟩
  · cases a with
    | none => simp [Builtin.append_, run_underlying Try.underlying22, Builtin.lenOf, Builtin.firstCells]
    | some x => simp [Builtin.append_, run_underlying Try.underlying22, Builtin.lenOf, Builtin.firstCells, hl]
  · cases a with
    | none => simp [Builtin.append_, run_underlying Try.underlying22, Builtin.lenOf, Builtin.firstCells, h, storeCells]
    | some x => simp [Builtin.append_, run_underlying Try.underlying22, Builtin.lenOf, Builtin.firstCells, h, storeCells, hl]
/-- An append of whatever whole numbers, none among them, onto a row of one's own. -/
theorem append_any (W : World) (ty : TypeId) (base : Nat) (v : Value) (l1 : List Int) (hown : W.ownsRow base 3 1 v l1.length (ivals l1)) (a : Option Addr) (l : List Int) (n cap : Nat) (hn : l.length = n) (hr : IRow W a l)
    (hsz : l1.length + n ≤ 1000000000) (hbase : base ≤ W.heap.size) :
    ∃ v' w', (Builtin.append_ #[22, 22] ty #[v, .slice a n cap]).run Try.prog W = .ok v' w' ∧ w'.ownsRow base 3 1 v' (l1 ++ l).length (ivals (l1 ++ l)) ∧ Below base W w' := by
  by_cases hne : l = []
  · subst hne
    obtain rfl : 0 = n := hn
    exact ⟨v, W, run_append_none W ty v l1 base hown a cap, by rw [List.append_nil]; exact hown, Below.refl _ _⟩
  · subst hn
    obtain ⟨g, cap', w', hrun, ho, hg, _⟩ := run_append_irow W ty base v l1 hown a l cap hr hne hsz hbase
    refine ⟨_, w', hrun, ho, (Below.refl base W).grown hg hbase ?_⟩
    rcases hown.2 with ⟨rfl, _⟩ | ⟨g', c', cur, rfl, hb', _⟩
    · intro k hk; simp [Value.ownBlock] at hk
    · intro k hk; simp [Value.ownBlock] at hk; omega
theorem owns_nil3 (w : World) (base : Nat) : w.ownsRow base 3 1 (.slice none 0 0) ([] : List Int).length (ivals []) := World.ownsRow_nil _ _ 3 1
theorem step_app3 {ops : Array Oper} {op : Oper} {a : Act} {w : World} {K : Act → World → Prop} {Q : Exit → Act → World → Prop} {E : Prop} (t : TypeId) (hgd : op.guard = none) (d s : Operand)
    (ho : op.op = .call { callee := .builtin .append, args := #[d, s], argTypes := #[t, t] }) (x y : Value) (hd : a.eval d = x) (hs : a.eval s = y) (v : Value) (w' : World) (hrun : (Builtin.append_ #[t, t] op.type #[x, y]).run Try.prog w = .ok v w')
    (z : Tmp) (hz : op.dst = some z) (h : K (a.put (some z) v) w') : if Region.wanted op (yielded ops a.tmps) = true then Oper.wp Try.prog op a w K Q else E := by
  refine step_app2 t hgd d s ho x y hd hs v w' hrun ?_
  rw [hz]
  exact h
/-- What is known of a list walked so far. -/
def Good (k : Int) (l : List Int) : Prop := (∀ x ∈ l, 0 ≤ x ∧ x < k) ∧ l.Nodup
theorem good_nil (k : Int) : Good k [] := ⟨by simp, List.nodup_nil⟩
theorem good_snoc {k : Int} {l : List Int} {x : Int} (h : Good k l) (h0 : 0 ≤ x ∧ x < k) (hx : x ∉ l) : Good k (l ++ [x]) := by
  refine ⟨fun y hy => ?_, ?_⟩
  · rcases List.mem_append.1 hy with hy | hy
    · exact h.1 y hy
    · simp at hy; rw [hy]; exact h0
  · refine List.nodup_append.2 ⟨h.2, by simp, fun y hy z hz e => ?_⟩
    simp at hz
    subst e hz
    exact hx hy
theorem take_snoc_int (l : List Int) (i : Nat) (hi : i < l.length) : l.take (i + 1) = l.take i ++ [l.getD i 0] := by
  rw [List.take_succ_eq_append_getElem hi]
  simp [hi]
theorem mem_take {l : List Int} {i j : Nat} (hj : j < i) (hi : i ≤ l.length) : l.getD j 0 ∈ l.take i := by
  have h1 : j < l.length := by omega
  rw [List.getD_eq_getElem?_getD, List.getElem?_eq_getElem h1]
  exact List.mem_take_iff_getElem.2 ⟨j, by omega, rfl⟩
theorem mem_take_get {l : List Int} {i : Nat} {x : Int} (h : x ∈ l.take i) : ∃ j, j < i ∧ j < l.length ∧ x = l.getD j 0 := by
  obtain ⟨j, hj, e⟩ := List.mem_take_iff_getElem.1 h
  refine ⟨j, by omega, by omega, ?_⟩
  rw [← e, List.getD_eq_getElem?_getD, List.getElem?_eq_getElem (by omega)]
  rfl
theorem good_bad {k : Int} {l : List Int} {i j : Nat} (hj : j < i) (hi : i < l.length) (e : l.getD j 0 = l.getD i 0) : ¬ Good k l := by
  intro h
  have h2 := List.getElem_inj (xs := l) (i := j) (j := i) (h₀ := by omega) (h₁ := hi) h.2
  have e1 : l[j]'(by omega) = l[i] := by
    rw [List.getD_eq_getElem?_getD, List.getD_eq_getElem?_getD, List.getElem?_eq_getElem (by omega), List.getElem?_eq_getElem hi] at e
    exact e
  have := h2.1 e1
  omega
theorem good_out {k : Int} {l : List Int} {i : Nat} (hi : i < l.length) (h : ¬ (0 ≤ l.getD i 0 ∧ l.getD i 0 < k)) : ¬ Good k l := fun hg => h (hg.1 _ (by
  rw [List.getD_eq_getElem?_getD, List.getElem?_eq_getElem hi]
  exact List.getElem_mem hi))
theorem IRow.cell {w : World} {a : Option Addr} {l : List Int} (h : IRow w a l) (hl : l ≠ []) : ∃ b off, a = some ⟨b, off, none⟩ ∧ b < w.heap.size ∧ ∀ i, i < l.length → w.cell? ⟨b, off + i, none⟩ = some (.int .i64 (l.getD i 0)) := by
  rcases h with h | h
  · exact absurd h hl
  · exact h
/-- What the document's own May answers. -/
def Sp.refMay (s : Sp) (k : Int) : Bool := decide (k ≤ 96 ∧ s.Ok k)
set_option maxRecDepth 10000 in
set_option maxHeartbeats 4000000 in
theorem refMay_any (w : World) (nb bt : Int) (aj : Option Addr) (nj cj : Nat) (lj : Int) (kj : Nat) (ac : Option Addr) (nc cc : Nat) (lc : Int) (kc : Nat) (sj sc : List Int)
    (hj : IRow w aj sj) (hnj : sj.length = nj) (hc : IRow w ac sc) (hnc : sc.length = nc) (hm : nj + nc ≤ 1000000000) (k : Int) (s : Sp) (hs : s = ⟨nb, bt, ⟨sj, lj, kj⟩, ⟨sc, lc, kc⟩⟩) :
    Calls Try.prog 12 #[.agg #[.int .i64 nb, .int .i64 bt, .slice aj nj cj, .int .i64 lj, .int .u32 (kj : Int), .slice ac nc cc, .int .i64 lc, .int .u32 (kc : Int)], .int .i64 k] w
      fun e w' => e = .returned (.bool (s.refMay k)) ∧ Below w.heap.size w w' := by
  have HT : Hid (s.refMay k = true ↔ (k ≤ 96 ∧ (0 ≤ nb ∧ nb ≤ 2147483647) ∧ (0 ≤ bt ∧ bt ≤ 2147483647) ∧ Good k (sj ++ sc) ∧ (0 ≤ lj ∧ lj ≤ 8 * (nj : Int)) ∧ (0 ≤ lc ∧ lc ≤ 8 * (nc : Int)))) := by
    show _ ↔ _
    rw [Sp.refMay, decide_eq_true_eq, Sp.Ok, hs]
    simp only [Good, hnj, hnc]
    exact ⟨fun ⟨a, b, c, d, e, f, g⟩ => ⟨a, b, c, ⟨d, e⟩, f, g⟩, fun ⟨a, b, c, ⟨d, e⟩, f, g⟩ => ⟨a, b, c, d, e, f, g⟩⟩
  generalize s.refMay k = r at *
  obtain ⟨w1, hw1⟩ : ∃ w1, w1 = w.alloc (.cells #[.int .i64 nb, .int .i64 bt, .slice aj nj cj, .int .i64 lj, .int .u32 (kj : Int), .slice ac nc cc, .int .i64 lc, .int .u32 (kc : Int)] 27) := ⟨_, rfl⟩
  have hb1 : Below w.heap.size w w1 := by rw [hw1]; exact (Below.refl _ _).alloc (Nat.le_refl _) _
  have hq1 : w1.heap[w.heap.size]? = some (.cells #[.int .i64 nb, .int .i64 bt, .slice aj nj cj, .int .i64 lj, .int .u32 (kj : Int), .slice ac nc cc, .int .i64 lc, .int .u32 (kc : Int)] 27 (0, 0)) := by rw [hw1]; exact heap_alloc_new _ _
  have hsz1 : w1.heap.size = w.heap.size + 1 := by rw [hw1]; simp
  have HB1 := hid hb1
  have HQ1 := hid hq1
  have HJ := hid (hj.below hb1)
  have HC := hid (hc.below hb1)
  have HW1 := hid hw1
  have HN := hid (And.intro hnj hnc)
  have HF : Hid (¬ (k ≤ 96 ∧ (0 ≤ nb ∧ nb ≤ 2147483647) ∧ (0 ≤ bt ∧ bt ≤ 2147483647) ∧ Good k (sj ++ sc) ∧ (0 ≤ lj ∧ lj ≤ 8 * (nj : Int)) ∧ (0 ≤ lc ∧ lc ≤ 8 * (nc : Int))) → r = false) := by
    show _ → _
    intro h
    cases r
    · rfl
    · exact absurd (HT.out.1 rfl) h
  clear hj hc hnj hnc hs hw1 hb1 hq1
  go_enter Try.func12, Try.ntmps12
  by_cases h1 : nb < 0
  · go_wp2_with fail
    rw [← HW1.out]
    go_ret
    exact ⟨by rw [HF.out (by omega)]; rfl, HB1.out⟩
  by_cases h2 : 2147483648 ≤ nb
  · go_wp2_with fail
    rw [← HW1.out]
    go_ret
    exact ⟨by rw [HF.out (by omega)]; rfl, HB1.out⟩
  by_cases h3 : bt < 0
  · go_wp2_with fail
    rw [← HW1.out]
    go_ret
    exact ⟨by rw [HF.out (by omega)]; rfl, HB1.out⟩
  by_cases h4 : 2147483648 ≤ bt
  · go_wp2_with fail
    rw [← HW1.out]
    go_ret
    exact ⟨by rw [HF.out (by omega)]; rfl, HB1.out⟩
  by_cases h5 : 96 < k
  · go_wp2_with fail
    rw [← HW1.out]
    go_ret
    exact ⟨by rw [HF.out (by omega)]; rfl, HB1.out⟩
  go_wp2_with fail
  rw [← HW1.out]
  have hd1 : Below w1.heap.size w1 w1.drew := ⟨rfl, rfl, rfl, Nat.le_refl _, fun _ _ => rfl⟩
  obtain ⟨v1, x1, hrun1, ho1, hbx1⟩ := append_any w1.drew 22 w1.heap.size (.slice none 0 0) [] (owns_nil3 _ _) aj sj nj cj HN.out.1 (HJ.out.below hd1) (by simp; omega) (Nat.le_refl _)
  have hbx1' : Below w1.heap.size w1 x1 := hd1.trans hbx1
  rw [List.nil_append] at ho1
  obtain ⟨v2, x2, hrun2, ho2, hbx2⟩ := append_any x1 22 w1.heap.size v1 sj ho1 ac sc nc cc HN.out.2 (HC.out.below hbx1') (by rw [HN.out.1]; omega) hbx1'.size
  have hbx2' : Below w1.heap.size w1 x2 := hbx1'.trans hbx2
  obtain ⟨A, cA, hv2, hirow, _⟩ := irow_of_owns ho2
  have hL : (sj ++ sc).length = nj + nc := by rw [List.length_append, HN.out.1, HN.out.2]
  rw [hL] at hv2
  subst hv2
  have hqq : w.heap.size < w1.heap.size := by omega
  have c1 : w1.drew.cell? ⟨w.heap.size, 2, none⟩ = some (.slice aj nj cj) ∧ w1.drew.cell? ⟨w.heap.size, 5, none⟩ = some (.slice ac nc cc) := by
    have h := cells8 (W := w1.drew) HQ1.out
    exact ⟨h.2.2.1, h.2.2.2.2.2.1⟩
  have hQx1 := (hbx1'.block _ hqq).trans HQ1.out
  have hQx2 := (hbx2'.block _ hqq).trans HQ1.out
  have c2 : x1.cell? ⟨w.heap.size, 2, none⟩ = some (.slice aj nj cj) ∧ x1.cell? ⟨w.heap.size, 5, none⟩ = some (.slice ac nc cc) := ⟨(cells8 hQx1).2.2.1, (cells8 hQx1).2.2.2.2.2.1⟩
  have c3 : x2.cell? ⟨w.heap.size, 2, none⟩ = some (.slice aj nj cj) ∧ x2.cell? ⟨w.heap.size, 5, none⟩ = some (.slice ac nc cc) := ⟨(cells8 hQx2).2.2.1, (cells8 hQx2).2.2.2.2.2.1⟩
  have S1 := hid c1
  have S2 := hid c2
  have S3 := hid c3
  have HR1 := hid hrun1
  have HR2 := hid hrun2
  have HIR := hid hirow
  have HQ2 := hid hQx2
  have HBX := hid (HB1.out.trans (hbx2'.mono (by omega)))
  have HLL := hid hL
  clear hd1 hrun1 ho1 hbx1 hbx1' hrun2 ho2 hbx2 hbx2' hirow hL c1 c2 c3 hQx1 hQx2 HW1 HJ HC hqq
  generalize hLL : sj ++ sc = L at *
  go_region_held_law (fun W => W.cell? ⟨w.heap.size, 2, none⟩ = some (.slice aj nj cj) ∧ W.cell? ⟨w.heap.size, 5, none⟩ = some (.slice ac nc cc)) (first | exact S1.out | exact S2.out | exact S3.out) (first | refine step_app3 22 rfl _ _ rfl _ _ rfl rfl _ x1 HR1.out 33 rfl ?_ | refine step_app3 22 rfl _ _ rfl _ _ rfl rfl _ x2 HR2.out 37 rfl ?_)
  obtain ⟨N, hN⟩ : ∃ N, nj + nc = N := ⟨_, rfl⟩
  rw [hN] at HLL ⊢
  have hNm : N ≤ 1000000000 := by omega
  have HNN := hid hN
  clear S1 S2 S3 HR1 HR2 hN hsz1
  have HFG : Hid (¬ Good k L → r = false) := fun h => HF.out (fun h' => h h'.2.2.2.1)
  go_wp2_with fail
  go_loopg [6] N (fun gk vi wr => ∃ i : Nat, i + gk = N ∧ vi = .int .i64 (i : Int) ∧ Good k (L.take i) ∧ ∃ n, wr = x2.drewN n)
  case atStart => exact ⟨0, by omega, rfl, good_nil k, 0, rfl⟩
  case round =>
    obtain ⟨i, hi, rfl, hgood, n, hwr⟩ := hrel
    have HGD := hid hgood
    have HBW : Hid (Below w.heap.size w wr) := by rw [hwr]; exact ⟨HBX.out.os, HBX.out.tape, HBX.out.output, HBX.out.size, HBX.out.block⟩
    have HQW : Hid (wr.heap[w.heap.size]? = some (.cells #[.int .i64 nb, .int .i64 bt, .slice aj nj cj, .int .i64 lj, .int .u32 (kj : Int), .slice ac nc cc, .int .i64 lc, .int .u32 (kc : Int)] 27 (0, 0))) := by rw [hwr]; exact HQ2.out
    have HWR := hid (show ∃ n, wr = x2.drewN n from ⟨n, hwr⟩)
    clear hgood
    obtain ⟨G, hG⟩ : ∃ G, G = gk := ⟨_, rfl⟩
    subst hG
    by_cases hlt : i < N
    · have hii : (i : Int) < (N : Int) := by omega
      obtain ⟨b, off, rfl, hb, hcell⟩ := HIR.out.cell (by intro h; have := HLL.out; rw [h] at this; simp at this; omega)
      have hci : wr.cell? ⟨b, off + i, none⟩ = some (.int .i64 (L.getD i 0)) := by rw [hwr]; exact hcell i (by rw [HLL.out]; exact hlt)
      have HCL : Hid (∀ j n, j < N → (x2.drewN n).cell? ⟨b, off + j, none⟩ = some (.int .i64 (L.getD j 0))) := fun j n hj => hcell j (by rw [HLL.out]; exact hj)
      have HLT : Hid (i < L.length) := by show _ < _; rw [HLL.out]; exact hlt
      clear hcell hb hwr
      by_cases hx0 : 0 ≤ L.getD i 0
      · by_cases hxk : L.getD i 0 < k
        · have HXX := hid (And.intro hx0 hxk)
          obtain ⟨x, hx⟩ : ∃ x, L.getD i 0 = x := ⟨_, rfl⟩
          have HX := hid hx
          rw [hx] at hx0 hxk hci
          clear hx
          go_wp2_with fail
          go_loopg [7] i (fun gk vj wr => ∃ j : Nat, j + gk = i ∧ vj = .int .i64 (j : Int) ∧ (∀ m, m < j → L.getD m 0 ≠ L.getD i 0) ∧ ∃ n, wr = x2.drewN n)
          case atStart => exact ⟨0, by omega, rfl, fun m hm => by omega, HWR.out⟩
          case round =>
            obtain ⟨j, hj, rfl, hne, n2, hwr2⟩ := hrel
            have HNE := hid hne
            clear hne hci
            by_cases hjl : j < i
            · have hji : (j : Int) < (i : Int) := by omega
              have hcj : wr.cell? ⟨b, off + j, none⟩ = some (.int .i64 (L.getD j 0)) := by rw [hwr2]; exact HCL.out j n2 (by omega)
              have hci : wr.cell? ⟨b, off + i, none⟩ = some (.int .i64 (L.getD i 0)) := by rw [hwr2]; exact HCL.out i n2 hlt
              have HW2 : Hid (∀ n, ∃ m, wr.drewN n = x2.drewN m) := fun n => ⟨n2 + n, by rw [hwr2, World.drewN_drewN]⟩
              have HBW2 : Hid (∀ n, Below w.heap.size w (wr.drewN n)) := fun n => by rw [hwr2]; exact ⟨HBX.out.os, HBX.out.tape, HBX.out.output, HBX.out.size, HBX.out.block⟩
              have hjN : j < N := by omega
              clear hwr2
              by_cases heq : L.getD j 0 = L.getD i 0
              · rw [heq] at hcj
                have HR0 := hid (HFG.out (good_bad hjl HLT.out heq))
                generalize L.getD i 0 = y at *
                clear heq
                go_wp2_with fail
                go_quiet (fail)
                have HBQ := hid (HBW2.out nq)
                generalize wr.drewN nq = v9 at HBQ ⊢
                go_wp2_with fail
                go_ret
                exact ⟨by rw [HR0.out]; rfl, HBQ.out⟩
              · have HEQ := hid heq
                generalize hy : L.getD i 0 = y at *
                generalize hz : L.getD j 0 = z at *
                have hzy : (z == y) = false := by simpa using heq
                have HY := hid (And.intro hy hz)
                clear heq hy hz
                go_wp2_with fail
                go_quiet (fail)
                have HQW2 := hid (HW2.out nq)
                generalize wr.drewN nq = v9 at HQW2 ⊢
                go_wp2_with fail
                go_roundg (gk - 1)
                case measure => omega
                case rel => exact ⟨j + 1, by omega, by go_num, fun m hm => by rcases Nat.lt_succ_iff_lt_or_eq.1 hm with h | rfl; exact HNE.out m h; rw [HY.out.2]; exact HEQ.out, HQW2.out⟩
            · have hji : ¬ (j : Int) < (i : Int) := by omega
              obtain rfl : j = i := by omega
              have HW2 := hid (show ∃ n, wr = x2.drewN n from ⟨n2, hwr2⟩)
              clear hwr2
              go_wp2_with fail
              go_roundg (G - 1)
              case measure => omega
              case rel =>
                refine ⟨j + 1, by omega, by go_num, ?_, HW2.out⟩
                rw [take_snoc_int L j HLT.out]
                refine good_snoc HGD.out HXX.out (fun hm => ?_)
                obtain ⟨m, h1, _, h3⟩ := mem_take_get hm
                exact HNE.out m h1 h3.symm
        · have HR0 := hid (HFG.out (good_out HLT.out (fun h => hxk h.2)))
          generalize L.getD i 0 = x at *
          go_wp2_with fail
          go_ret
          exact ⟨by rw [HR0.out]; rfl, HBW.out⟩
      · have HR0 := hid (HFG.out (good_out HLT.out (fun h => hx0 h.1)))
        generalize L.getD i 0 = x at *
        go_wp2_with fail
        go_ret
        exact ⟨by rw [HR0.out]; rfl, HBW.out⟩
    · have hii : ¬ (i : Int) < (N : Int) := by omega
      have HGL : Hid (Good k L) := by
        have := HGD.out
        rwa [List.take_of_length_le (by rw [HLL.out]; omega)] at this
      obtain ⟨e0, e1, e2, e3, e4, e5, e6, e7⟩ := cells8 HQW.out
      clear hwr
      have HTR : Hid ((0 ≤ lj ∧ lj ≤ 8 * (nj : Int)) ∧ (0 ≤ lc ∧ lc ≤ 8 * (nc : Int)) → r = true) := fun h => HT.out.2 ⟨by omega, by omega, by omega, HGL.out, h⟩
      have HFA : Hid (¬ ((0 ≤ lj ∧ lj ≤ 8 * (nj : Int)) ∧ (0 ≤ lc ∧ lc ≤ 8 * (nc : Int))) → r = false) := fun h => HF.out (fun h' => h h'.2.2.2.2)
      by_cases j0 : 0 ≤ lj
      · by_cases j1 : lj ≤ 8 * (nj : Int)
        · by_cases j2 : 0 ≤ lc
          · by_cases j3 : lc ≤ 8 * (nc : Int)
            · have HR0 := hid (HTR.out ⟨⟨j0, j1⟩, j2, j3⟩)
              go_wp2_with fail
              go_ret
              exact ⟨by rw [HR0.out]; rfl, HBW.out⟩
            · have HR0 := hid (HFA.out (fun h => j3 h.2.2))
              go_wp2_with fail
              go_ret
              exact ⟨by rw [HR0.out]; rfl, HBW.out⟩
          · have HR0 := hid (HFA.out (fun h => j2 h.2.1))
            go_wp2_with fail
            go_ret
            exact ⟨by rw [HR0.out]; rfl, HBW.out⟩
        · have HR0 := hid (HFA.out (fun h => j1 h.1.2))
          go_wp2_with fail
          go_ret
          exact ⟨by rw [HR0.out]; rfl, HBW.out⟩
      · have HR0 := hid (HFA.out (fun h => j0 h.1.1))
        go_wp2_with fail
        go_ret
        exact ⟨by rw [HR0.out]; rfl, HBW.out⟩
end Go.Proofs.Ytmfmhlhpleahpaa
