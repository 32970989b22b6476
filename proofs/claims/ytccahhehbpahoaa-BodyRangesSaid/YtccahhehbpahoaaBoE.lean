/- slices.Clone, slices.Grow, slices.Concat of parts. Condition: at most a hundred thousand parts in each. -/
import Derived.Test.YtccahhehbpahoaaBoA
import Derived.Lib.AppendZerosOnto
namespace Go.Proofs.Ytccahhehbpahoaa
open Go.ChangeShapes Go.WideShapes Go.ChangeAt Go.RowKit
set_option maxRecDepth 4000
set_option linter.unusedVariables false
attribute [local go_sem ↓] Go.wp_at_zero Go.wp_at_succ
theorem peq_some (w : World) (ad : Addr) (n cap : Nat) : (binOp .eql 27 (.slice (some ad) n cap) (.slice none 0 0)).run Try.prog w = .ok (.bool false) w := by kernel_rfl
theorem peq_none (w : World) : (binOp .eql 27 (.slice none 0 0) (.slice none 0 0)).run Try.prog w = .ok (.bool true) w := by kernel_rfl
theorem pown_empty (w : World) : POwn 58 w.heap.size (w.alloc (.cells #[] 58)) (.slice (some ⟨w.heap.size, 0, none⟩) 0 0) [] :=
  ⟨rfl, .inr ⟨w.heap.size, 0, #[], rfl, Nat.le_refl _, heap_alloc_new _ _, Nat.le_refl _, Nat.zero_le _, rfl, rfl⟩⟩
set_option maxHeartbeats 1000000 in
/-- Whatever parts: new ones of the same. -/
theorem pclone_any {w : World} (a : Option Addr) (l : List Pt) (n cap : Nat) (hn : l.length = n) (hz : a = none → cap = 0) (hr : PRow w a l) (hl : n ≤ 100000) :
    Calls Try.prog 28 #[.slice a n cap] w fun e w' => ∃ v, e = .returned v ∧ POwn 58 w.heap.size w' v l ∧ Below w.heap.size w w' := by
  cases a with
  | none =>
    have h0 : l = [] := by
      rcases hr with h | ⟨b, off, ha, _⟩
      · exact h
      · simp at ha
    subst h0
    obtain rfl : 0 = n := hn
    obtain rfl := hz rfl
    have heq := fun w => peq_none w
    clear hr hl hz
    go_enter Try.func28, Try.ntmps28
    go_wp2_with fail
    go_ret
    exact ⟨_, rfl, POwn.nil _ _ _, Below.refl _ _⟩
  | some ad =>
    have heq := fun w => peq_some w ad n cap
    obtain ⟨v', w', hrun, ho, hb, _⟩ := (pown_empty w).app kind27 (some ad) l n cap hn (hr.below ((Below.refl _ w).alloc (Nat.le_refl _) _)) (by simp; omega) (by simp)
    rw [List.nil_append] at ho
    have HO := hid ho
    have HRUN := hid hrun
    have HB := hid (((Below.refl w.heap.size w).alloc (Nat.le_refl _) (.cells #[] 58)).trans hb)
    clear hr hn ho hrun hb
    go_enter Try.func28, Try.ntmps28
    go_wp2_with (at_builtin; refine step_app _ 27 rfl _ _ rfl _ _ rfl rfl _ _ HRUN.out ?_)
    go_ret
    exact ⟨_, rfl, HO.out, HB.out⟩
/-- nil, with room for k. -/
theorem pappend_zeros (w : World) (k : Nat) (h0 : 0 < k) (h1 : k ≤ 1000000) : ∃ g c w', (∀ ty, (Builtin.append_ #[27, 3] ty #[.slice none 0 0, .int .i64 (k : Int)]).run Try.prog w = .ok (.slice (some ⟨g, 0, none⟩) k c) w') ∧ k ≤ c ∧ POwn 58 w.heap.size w' (.slice (some ⟨g, 0, none⟩) 0 c) [] ∧ Below w.heap.size w w' := by
  obtain ⟨i3, hi3, hzz⟩ := Option.map_eq_some_iff.1 info58
  simp only [Prod.mk.injEq] at hzz
  obtain ⟨hz3, hs3, hy3⟩ := hzz
  have hr := fun ty => Go.Lib.run_append_grow_zeros (P := Try.prog) w 27 3 ty 58 i3 (.agg #[.int .i64 0, .int .i64 0, .int .i64 0, .int .i64 0]) .i64 .i64 Try.underlying27 Try.underlying3 hi3 hz3 none 0 0 [] (run_firstCells_none w.drew i3.size 0 0 0) k h0 (by omega) (by omega) (by omega) (by rw [hy3]; omega) (by rw [Nat.zero_add, hy3, Builtin.nextslicecap, if_pos (by omega)]; omega)
  have hc := grownCap_ge w (0 + k) 0 58
  have hm := grownCap_le_maxLen w (0 + k) 0 58 (by unfold maxLen; omega)
  rw [Nat.zero_add] at hc hm
  simp only [Nat.zero_add] at hr
  refine ⟨w.heap.size, grownCap w k 0 58, _, hr, hc, ?_, ?_⟩
  · refine ⟨rfl, .inr ⟨w.heap.size, _, _, rfl, Nat.le_refl _, heap_alloc_new w.drew _, Nat.zero_le _, hm, ?_, rfl⟩⟩
    simp [Value.cells, size_zeroCells]
    omega
  · exact (Below.refl w.heap.size w).drew.alloc (Nat.le_refl _) _
theorem step_appz {ops : Array Oper} {rest : List Oper} {o : Oper} {act : Act} {Q : Exit → Act → World → Prop} (W : World) (t t2 : TypeId) (hgd : o.guard = none) (s x : Operand)
    (ho : o.op = .call { callee := .builtin .append, args := #[s, x], argTypes := #[t, t2] }) (u v : Value) (hs : act.eval s = u) (hx : act.eval x = v) (r : Value) (w' : World) (hrun : ∀ ty, (Builtin.append_ #[t, t2] ty #[u, v]).run Try.prog W = .ok r w')
    (h : wpList Try.prog ops Q rest (act.put o.dst r) w') : wpList Try.prog ops Q (o :: rest) act W :=
  wpList_plain hgd fun _ hK => by
    unfold Oper.wp execOp
    simp only [ho, resolve, invoke, builtin, Sem.run_bind, Sem.run_pure, Result.andThen_ok, List.map_toArray, List.map_cons, List.map_nil, hs, hx, hrun]
    exact hK _ _ h
theorem elem27 : Try.prog.elem 27 = 58 := by kernel_rfl
theorem psize58 (w : World) : (sizeOf 58).run Try.prog w = .ok 4 w := by kernel_rfl
theorem pslice_to (w : World) (a : Option Addr) (n cap k : Nat) (hk : k ≤ cap) : (Instr.slice 27 (.slice a n cap) none (some (.int .i64 (k : Int))) none).run Try.prog w = .ok (.slice a k cap) w := by
  rw [run_slice_h (ht := (by rw [elem27]; exact Try.underlying27 : Try.prog.underlying 27 = some (.slice (Try.prog.elem 27)))) (kh := .i64) (h := (k : Int)) (h0 := by omega) (h2 := by omega), elem27, psize58]
  simp [sliced, Result.andThen, addr_add0]
set_option maxHeartbeats 1000000 in
theorem pgrow_any (w : World) (k : Nat) (h0 : 0 < k) (h1 : k ≤ 1000000) : Calls Try.prog 44 #[.slice none 0 0, .int .i64 (k : Int)] w fun e w' => ∃ v, e = .returned v ∧ POwn 58 w.heap.size w' v [] ∧ Below w.heap.size w w' := by
  obtain ⟨g, c, w', hrun, hc, ho, hb⟩ := pappend_zeros w k h0 h1
  have HO := hid ho
  have HB := hid hb
  have HR := hid hrun
  have hs1 := fun w => pslice_to w none 0 0 0 (Nat.le_refl _)
  have hs2 := fun w => pslice_to w (some ⟨g, 0, none⟩) k c 0 (Nat.zero_le _)
  clear ho hb hrun
  go_enter Try.func44, Try.ntmps44
  go_wp2_with (at_builtin; refine step_appz _ 27 3 rfl _ _ rfl _ _ rfl rfl _ _ HR.out ?_)
  go_ret
  exact ⟨_, rfl, HO.out, HB.out⟩
/-- Three slices one behind another at y. -/
def Trip (w : World) (y : Nat) (v0 v1 v2 : Value) : Prop := w.heap[y]? = some (.cells #[v0, v1, v2] 27 (0, 0))
theorem Trip.at_ {w : World} {y : Nat} {v0 v1 v2 : Value} (h : Trip w y v0 v1 v2) : w.cell? ⟨y, 0, none⟩ = some v0 ∧ w.cell? ⟨y, 1, none⟩ = some v1 ∧ w.cell? ⟨y, 2, none⟩ = some v2 :=
  ⟨by rw [cell_of_row w y 0 _ 27 (0, 0) h]; rfl, by rw [cell_of_row w y 1 _ 27 (0, 0) h]; rfl, by rw [cell_of_row w y 2 _ 27 (0, 0) h]; rfl⟩
theorem Trip.below {w w' : World} {y : Nat} {v0 v1 v2 : Value} (h : Trip w y v0 v1 v2) (hb : Below w.heap.size w w') : Trip w' y v0 v1 v2 :=
  (hb.block y (lt_of_some h)).trans h
/-- What is summed, and joined, ahead of the i-th of three. -/
def upN (n m k i : Nat) : Nat := if i = 0 then 0 else if i = 1 then n else if i = 2 then n + m else n + m + k
def upL (l1 l2 l3 : List Pt) (i : Nat) : List Pt := if i = 0 then [] else if i = 1 then l1 else if i = 2 then l1 ++ l2 else l1 ++ (l2 ++ l3)
set_option maxHeartbeats 4000000 in
theorem pconcat_any {w : World} {y : Nat} (a b d : Option Addr) (l1 l2 l3 : List Pt) (n m k c1 c2 c3 : Nat) (hp : Trip w y (.slice a n c1) (.slice b m c2) (.slice d k c3)) (hn : l1.length = n) (hm : l2.length = m) (hk : l3.length = k) (h1 : PRow w a l1) (h2 : PRow w b l2) (h3 : PRow w d l3) (h0 : 0 < n + m + k) (hn1 : n ≤ 100000) (hm1 : m ≤ 100000) (hk1 : k ≤ 100000) :
    Calls Try.prog 29 #[.slice (some ⟨y, 0, none⟩) 3 3] w fun e w' => ∃ v, e = .returned v ∧ POwn 58 w.heap.size w' v (l1 ++ (l2 ++ l3)) ∧ Below w.heap.size w w' := by
  have HP := hid hp
  have HN := hid hn
  have HM := hid hm
  have HK := hid hk
  have H1 := hid h1
  have H2 := hid h2
  have H3 := hid h3
  obtain ⟨d0, d1, d2⟩ := hp.at_
  clear hp hn hm hk h1 h2 h3
  go_enter Try.func29, Try.ntmps29
  go_wp2_with fail
  go_loopg [3, 11] 3 (fun gk v3 v11 wr => ∃ i : Nat, i + gk = 3 ∧ v11 = .int .i64 (i : Int) ∧ v3 = .int .i64 ((upN n m k i : Nat) : Int) ∧ wr = w)
  case atStart => exact ⟨0, rfl, rfl, rfl, rfl⟩
  case round =>
    obtain ⟨i, hi, rfl, rfl, rfl⟩ := hrel
    by_cases hi0 : i = 0
    · subst hi0
      rw [show upN n m k 0 = 0 from rfl]
      have hlt : ((0 : Nat) : Int) < 3 := by omega
      go_wp2_with fail
      go_roundg (gk - 1)
      case measure => omega
      case rel => exact ⟨1, by omega, rfl, by simp [upN], rfl⟩
    by_cases hi1 : i = 1
    · subst hi1
      rw [show upN n m k 1 = n from rfl]
      have hlt : ((1 : Nat) : Int) < 3 := by omega
      go_wp2_with fail
      go_roundg (gk - 1)
      case measure => omega
      case rel => exact ⟨2, by omega, rfl, by simp [upN], rfl⟩
    by_cases hi2 : i = 2
    · subst hi2
      rw [show upN n m k 2 = n + m from rfl]
      obtain ⟨s, hs⟩ : ∃ s, n + m = s := ⟨_, rfl⟩
      rw [hs]
      have HS := hid hs
      have hs1 : s ≤ 200000 := by omega
      clear hs
      have hlt : ((2 : Nat) : Int) < 3 := by omega
      go_wp2_with fail
      go_roundg (gk - 1)
      case measure => omega
      case rel => exact ⟨3, by omega, rfl, by simp [upN, ← HS.out], rfl⟩
    obtain rfl : i = 3 := by omega
    rw [show upN n m k 3 = n + m + k from rfl]
    obtain ⟨s, hs⟩ : ∃ s, n + m + k = s := ⟨_, rfl⟩
    rw [hs] at h0 ⊢
    have hs1 : s ≤ 300000 := by omega
    have HS := hid hs
    clear hs
    have hlt : ¬ ((3 : Nat) : Int) < 3 := by omega
    go_wp2_with fail
    refine (pgrow_any _ s h0 (by omega)).mono ?_
    rintro e w1 ⟨v0, rfl, ho, hb⟩
    have HO := hid ho
    have HB := hid hb
    obtain ⟨a0, cc0, rfl, _⟩ := ho.row
    clear ho hb
    go_wp2_with fail
    go_loopg [6, 27] 3 (fun gk v6 v27 wq => ∃ i : Nat, i + gk = 3 ∧ v27 = .int .i64 (i : Int) ∧ POwn 58 wr.heap.size wq v6 (upL l1 l2 l3 i) ∧ Below wr.heap.size wr wq)
    case atStart => exact ⟨0, rfl, rfl, HO.out, HB.out⟩
    case round =>
      obtain ⟨i, hi, rfl, hoq, hbq⟩ := hrel
      clear HO HB d0 d1 d2
      have HPQ := HP.out.below hbq
      obtain ⟨d0, d1, d2⟩ := HPQ.at_
      clear HPQ
      by_cases hi0 : i = 0
      · subst hi0
        rw [show upL l1 l2 l3 0 = [] from rfl] at hoq
        obtain ⟨v', w', hrun, ho', hb', _⟩ := hoq.app kind27 a l1 n c1 HN.out (H1.out.below hbq) (by simp; omega) hbq.size
        have HO := hid ho'
        have HB := hid (hbq.trans hb')
        have HR := hid hrun
        obtain ⟨a9, c9, rfl, _⟩ := hoq.row
        clear hoq hbq hrun ho' hb'
        have hlt : ((0 : Nat) : Int) < 3 := by omega
        go_wp2_with (at_builtin; refine step_app _ 27 rfl _ _ rfl _ _ rfl rfl _ _ HR.out ?_)
        go_roundg (gk - 1)
        case measure => omega
        case rel => exact ⟨1, by omega, rfl, by simpa [upL] using HO.out, HB.out⟩
      by_cases hi1 : i = 1
      · subst hi1
        rw [show upL l1 l2 l3 1 = l1 from rfl] at hoq
        obtain ⟨v', w', hrun, ho', hb', _⟩ := hoq.app kind27 b l2 m c2 HM.out (H2.out.below hbq) (by rw [HN.out]; omega) hbq.size
        have HO := hid ho'
        have HB := hid (hbq.trans hb')
        have HR := hid hrun
        obtain ⟨a9, c9, rfl, _⟩ := hoq.row
        clear hoq hbq hrun ho' hb'
        have hlt : ((1 : Nat) : Int) < 3 := by omega
        go_wp2_with (at_builtin; refine step_app _ 27 rfl _ _ rfl _ _ rfl rfl _ _ HR.out ?_)
        go_roundg (gk - 1)
        case measure => omega
        case rel => exact ⟨2, by omega, rfl, by simpa [upL] using HO.out, HB.out⟩
      by_cases hi2 : i = 2
      · subst hi2
        rw [show upL l1 l2 l3 2 = l1 ++ l2 from rfl] at hoq
        obtain ⟨v', w', hrun, ho', hb', _⟩ := hoq.app kind27 d l3 k c3 HK.out (H3.out.below hbq) (by rw [List.length_append, HN.out, HM.out]; omega) hbq.size
        have HO := hid ho'
        have HB := hid (hbq.trans hb')
        have HR := hid hrun
        obtain ⟨a9, c9, rfl, _⟩ := hoq.row
        clear hoq hbq hrun ho' hb'
        have hlt : ((2 : Nat) : Int) < 3 := by omega
        go_wp2_with (at_builtin; refine step_app _ 27 rfl _ _ rfl _ _ rfl rfl _ _ HR.out ?_)
        go_roundg (gk - 1)
        case measure => omega
        case rel => exact ⟨3, by omega, rfl, by simpa [upL] using HO.out, HB.out⟩
      obtain rfl : i = 3 := by omega
      rw [show upL l1 l2 l3 3 = l1 ++ (l2 ++ l3) from rfl] at hoq
      have hlt : ¬ ((3 : Nat) : Int) < 3 := by omega
      have HQ := hid (And.intro hoq hbq)
      obtain ⟨a9, c9, hv, _⟩ := hoq.row
      obtain ⟨N, hN⟩ : ∃ N, (l1 ++ (l2 ++ l3)).length = N := ⟨_, rfl⟩
      rw [hN] at hv
      subst hv
      clear hoq hbq hN
      go_wp2_with fail
      go_ret
      exact ⟨_, rfl, HQ.out.1, HQ.out.2⟩
end Go.Proofs.Ytccahhehbpahoaa
