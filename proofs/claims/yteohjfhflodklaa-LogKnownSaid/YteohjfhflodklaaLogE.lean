/- slices.Clone, slices.Grow, slices.Concat of whole numbers. Condition: at most a million numbers. -/
import Derived.Test.YteohjfhflodklaaLogA
import Derived.Deep.RegionHeldLaw
import Derived.Deep.RegionHeld
namespace Go.Proofs.Yteohjfhflodklaa
open Go.RowKit Pen
set_option maxRecDepth 4000
theorem ieq_some (w : World) (ad : Addr) (n cap : Nat) : (binOp .eql 33 (.slice (some ad) n cap) (.slice none 0 0)).run Try.prog w = .ok (.bool false) w := by kernel_rfl
theorem ieq_none (w : World) : (binOp .eql 33 (.slice none 0 0) (.slice none 0 0)).run Try.prog w = .ok (.bool true) w := by kernel_rfl
theorem owns_empty3 (w : World) : (w.alloc (.cells #[] 3)).ownsRow w.heap.size 3 1 (.slice (some ⟨w.heap.size, 0, none⟩) 0 0) ([] : List Int).length (ivals []) :=
  ⟨rfl, .inr ⟨w.heap.size, 0, #[], rfl, Nat.le_refl _, heap_alloc_new _ _, Nat.le_refl _, Nat.zero_le _, rfl, rfl⟩⟩
theorem step_app {ops : Array Oper} {rest : List Oper} {o : Oper} {act : Act} {Q : Exit → Act → World → Prop} (W : World) (t : TypeId) (hgd : o.guard = none) (s x : Operand)
    (ho : o.op = .call { callee := .builtin .append, args := #[s, x], argTypes := #[t, t] }) (u v : Value) (hs : act.eval s = u) (hx : act.eval x = v) (r : Value) (w' : World) (hrun : ∀ ty, (Builtin.append_ #[t, t] ty #[u, v]).run Try.prog W = .ok r w')
    (h : wpList Try.prog ops Q rest (act.put o.dst r) w') : wpList Try.prog ops Q (o :: rest) act W :=
  wpList_plain hgd fun _ hK => by
    unfold Oper.wp execOp
    simp only [ho, resolve, invoke, builtin, Sem.run_bind, Sem.run_pure, Result.andThen_ok, List.map_toArray, List.map_cons, List.map_nil, hs, hx, hrun]
    exact hK _ _ h
/-- An append whose outcome does not hang on the type that is told. -/
theorem append_all (W : World) (base : Nat) (v : Value) (l1 : List Int) (hown : W.ownsRow base 3 1 v l1.length (ivals l1)) (a : Option Addr) (l : List Int) (n cap : Nat) (hn : l.length = n) (hr : IRow W a l)
    (hsz : l1.length + n ≤ 1000000000) (hbase : base ≤ W.heap.size) :
    ∃ v' w', (∀ ty, (Builtin.append_ #[33, 33] ty #[v, .slice a n cap]).run Try.prog W = .ok v' w') ∧ w'.ownsRow base 3 1 v' (l1 ++ l).length (ivals (l1 ++ l)) ∧ Below base W w' := by
  obtain ⟨v', w', h1, h2, h3⟩ := append_any W 0 base v l1 hown a l n cap hn hr hsz hbase
  exact ⟨v', w', fun ty => h1, h2, h3⟩
set_option maxHeartbeats 1000000 in
/-- Whatever numbers: new ones of the same. -/
theorem iclone_any {w : World} (a : Option Addr) (l : List Int) (n cap : Nat) (hn : l.length = n) (hz : a = none → cap = 0) (hr : IRow w a l) (hl : n ≤ 1000000) :
    Calls Try.prog 28 #[.slice a n cap] w fun e w' => ∃ b c, e = .returned (.slice b n c) ∧ SRow w' b l ∧ n ≤ c ∧ c ≤ maxLen ∧ (b = none → c = 0) ∧ Below w.heap.size w w' := by
  cases a with
  | none =>
    have h0 : l = [] := by
      rcases hr with h | ⟨b, off, ha, _⟩
      · exact h
      · simp at ha
    subst h0
    obtain rfl : 0 = n := hn
    obtain rfl := hz rfl
    have heq := fun w => ieq_none w
    clear hr hl hz
    go_enter Try.func28, Try.ntmps28
    go_wp2_with fail
    go_ret
    exact ⟨none, 0, rfl, .inl rfl, Nat.le_refl _, Nat.zero_le _, fun _ => rfl, Below.refl _ _⟩
  | some ad =>
    have heq := fun w => ieq_some w ad n cap
    obtain ⟨v', w', hrun, ho, hb⟩ := append_all (w.alloc (.cells #[] 3)) w.heap.size _ [] (owns_empty3 w) (some ad) l n cap hn (hr.below ((Below.refl _ w).alloc (Nat.le_refl _) _)) (by simp; omega) (by simp)
    rw [List.nil_append, hn] at ho
    have HO := hid ho
    have HRUN := hid hrun
    have HB := hid (((Below.refl w.heap.size w).alloc (Nat.le_refl _) (.cells #[] 3)).trans hb)
    have HN := hid hn
    clear hr hn ho hrun hb
    go_enter Try.func28, Try.ntmps28
    go_wp2_with (at_builtin; refine step_app _ 33 rfl _ _ rfl _ _ rfl rfl _ _ HRUN.out ?_)
    go_ret
    have ho := HO.out
    rw [← HN.out] at ho
    obtain ⟨b, c, rfl, h1, h2, h3, h4⟩ := srow_of_owns ho
    rw [HN.out] at h2 ⊢
    exact ⟨b, c, rfl, h1, h2, h3, h4, HB.out⟩
/-- nil, with room for k. -/
theorem append_zeros (w : World) (k : Nat) (h0 : 0 < k) (h1 : k ≤ 1000000) : ∃ g c w', (∀ ty, (Builtin.append_ #[33, 3] ty #[.slice none 0 0, .int .i64 (k : Int)]).run Try.prog w = .ok (.slice (some ⟨g, 0, none⟩) k c) w') ∧ k ≤ c ∧ w'.ownsRow w.heap.size 3 1 (.slice (some ⟨g, 0, none⟩) 0 c) ([] : List Int).length (ivals []) ∧ Below w.heap.size w w' := by
  obtain ⟨i3, hi3, hz3, hs3, hy3⟩ := info3'
  have hr := fun ty => Go.Lib.run_append_grow_zeros (P := Try.prog) w 33 3 ty 3 i3 (.int .i64 0) .i64 .i64 Try.underlying33 Try.underlying3 hi3 hz3 none 0 0 [] (run_firstCells_none w.drew i3.size 0 0 0) k h0 (by omega) (by omega) (by omega) (by rw [hy3]; omega) (by rw [Nat.zero_add, hy3, Builtin.nextslicecap, if_pos (by omega)]; omega)
  have hc := grownCap_ge w (0 + k) 0 3
  have hm := grownCap_le_maxLen w (0 + k) 0 3 (by unfold maxLen; omega)
  rw [Nat.zero_add] at hc hm
  simp only [Nat.zero_add] at hr
  refine ⟨w.heap.size, grownCap w k 0 3, _, hr, hc, ?_, ?_⟩
  · refine ⟨rfl, .inr ⟨w.heap.size, _, _, rfl, Nat.le_refl _, heap_alloc_new w.drew _, Nat.zero_le _, hm, ?_, rfl⟩⟩
    simp [Value.cells, size_zeroCells]
    omega
  · exact (Below.refl w.heap.size w).drew.alloc (Nat.le_refl _) _
theorem step_appz {ops : Array Oper} {rest : List Oper} {o : Oper} {act : Act} {Q : Exit → Act → World → Prop} (W : World) (t t2 : TypeId) (hgd : o.guard = none) (s x : Operand)
    (ho : o.op = .call { callee := .builtin .append, args := #[s, x], argTypes := #[t, t2] }) (u v : Value) (hs : act.eval s = u) (hx : act.eval x = v) (r : Value) (w' : World) (hrun : ∀ ty, (Builtin.append_ #[t, t2] ty #[u, v]).run Try.prog W = .ok r w')
    (h : wpList Try.prog ops Q rest (act.put o.dst r) w') : wpList Try.prog ops Q (o :: rest) act W :=
  wpList_plain hgd fun _ hK => by
    unfold Oper.wp execOp
    simp only [ho, resolve, invoke, builtin, Sem.run_bind, Sem.run_pure, Result.andThen_ok, List.map_toArray, List.map_cons, List.map_nil, hs, hx, hrun]
    exact hK _ _ h
theorem elem33 : Try.prog.elem 33 = 3 := by kernel_rfl
theorem size3 (w : World) : (sizeOf 3).run Try.prog w = .ok 1 w := by kernel_rfl
theorem islice_to (w : World) (a : Option Addr) (n cap k : Nat) (hk : k ≤ cap) : (Instr.slice 33 (.slice a n cap) none (some (.int .i64 (k : Int))) none).run Try.prog w = .ok (.slice a k cap) w := by
  rw [run_slice_h (ht := (by rw [elem33]; exact Try.underlying33 : Try.prog.underlying 33 = some (.slice (Try.prog.elem 33)))) (kh := .i64) (h := (k : Int)) (h0 := by omega) (h2 := by omega), elem33, size3]
  simp [sliced, Result.andThen, addr_add0]
theorem islice_from (w : World) (a : Option Addr) (n cap k : Nat) (hk : k ≤ n) : (Instr.slice 33 (.slice a n cap) (some (.int .i64 (k : Int))) none none).run Try.prog w = .ok (.slice (fromA a k cap) (n - k) (cap - k)) w := by
  rw [run_slice_l (ht := (by rw [elem33]; exact Try.underlying33 : Try.prog.underlying 33 = some (.slice (Try.prog.elem 33)))) (kl := .i64) (l := (k : Int)) (h0 := by omega) (h1 := by omega), elem33, size3]
  simp [sliced, Result.andThen, fromA]
set_option maxHeartbeats 1000000 in
theorem grow_any (w : World) (k : Nat) (h0 : 0 < k) (h1 : k ≤ 1000000) : Calls Try.prog 48 #[.slice none 0 0, .int .i64 (k : Int)] w fun e w' => ∃ v, e = .returned v ∧ w'.ownsRow w.heap.size 3 1 v ([] : List Int).length (ivals []) ∧ Below w.heap.size w w' := by
  obtain ⟨g, c, w', hrun, hc, ho, hb⟩ := append_zeros w k h0 h1
  have HO := hid ho
  have HB := hid hb
  have HR := hid hrun
  have hs1 := fun w => islice_to w none 0 0 0 (Nat.le_refl _)
  have hs2 := fun w => islice_to w (some ⟨g, 0, none⟩) k c 0 (Nat.zero_le _)
  clear ho hb hrun
  go_enter Try.func48, Try.ntmps48
  go_wp2_with (at_builtin; refine step_appz _ 33 3 rfl _ _ rfl _ _ rfl rfl _ _ HR.out ?_)
  go_ret
  exact ⟨_, rfl, HO.out, HB.out⟩
/-- Two slices one behind another at y. -/
def Pair2 (w : World) (y : Nat) (a b : Option Addr) (n c m d : Nat) : Prop := w.heap[y]? = some (.cells #[.slice a n c, .slice b m d] 33 (0, 0))
theorem Pair2.at_ {w : World} {y : Nat} {a b : Option Addr} {n c m d : Nat} (h : Pair2 w y a b n c m d) : w.cell? ⟨y, 0, none⟩ = some (.slice a n c) ∧ w.cell? ⟨y, 1, none⟩ = some (.slice b m d) :=
  ⟨by rw [cell_of_row w y 0 _ 33 (0, 0) h]; rfl, by rw [cell_of_row w y 1 _ 33 (0, 0) h]; rfl⟩
theorem Pair2.below {w w' : World} {y : Nat} {a b : Option Addr} {n c m d : Nat} (h : Pair2 w y a b n c m d) (hb : Below w.heap.size w w') : Pair2 w' y a b n c m d :=
  (hb.block y (Array.getElem?_eq_some_iff.1 h).1).trans h
set_option maxHeartbeats 2000000 in
theorem concat_any {w : World} {y : Nat} (a b : Option Addr) (l1 l2 : List Int) (n c m d : Nat) (hp : Pair2 w y a b n c m d) (hn : l1.length = n) (hm : l2.length = m) (h1 : IRow w a l1) (h2 : IRow w b l2) (h0 : 0 < n + m) (hn1 : n ≤ 1000) (hm1 : m ≤ 1000) :
    Calls Try.prog 32 #[.slice (some ⟨y, 0, none⟩) 2 2] w fun e w' => ∃ a' c', e = .returned (.slice a' (n + m) c') ∧ SRow w' a' (l1 ++ l2) ∧ n + m ≤ c' ∧ c' ≤ maxLen ∧ (a' = none → c' = 0) ∧ Below w.heap.size w w' := by
  have HP := hid hp
  have HN := hid hn
  have HM := hid hm
  have H1 := hid h1
  have H2 := hid h2
  obtain ⟨c0, c1⟩ := hp.at_
  clear hp hn hm h1 h2
  go_enter Try.func32, Try.ntmps32
  go_wp2_with fail
  go_loopg [3, 11] 2 (fun gk v3 v11 wr => ∃ i : Nat, i + gk = 2 ∧ v11 = .int .i64 (i : Int) ∧ v3 = .int .i64 ((if i = 0 then 0 else if i = 1 then n else n + m : Nat) : Int) ∧ wr = w)
  case atStart => exact ⟨0, rfl, rfl, rfl, rfl⟩
  case round =>
    obtain ⟨i, hi, rfl, rfl, rfl⟩ := hrel
    by_cases hi0 : i = 0
    · subst hi0
      rw [if_pos rfl]
      have hlt : ((0 : Nat) : Int) < 2 := by omega
      go_wp2_with fail
      go_roundg (gk - 1)
      case measure => omega
      case rel => exact ⟨1, by omega, rfl, by simp, rfl⟩
    · by_cases hi1 : i = 1
      · subst hi1
        rw [if_neg (by omega), if_pos rfl]
        have hlt : ((1 : Nat) : Int) < 2 := by omega
        go_wp2_with fail
        go_roundg (gk - 1)
        case measure => omega
        case rel => exact ⟨2, by omega, rfl, by simp, rfl⟩
      · obtain rfl : i = 2 := by omega
        rw [if_neg (by omega), if_neg (by omega)]
        have hlt : ¬ ((2 : Nat) : Int) < 2 := by omega
        go_wp2_with fail
        have e0 : (n : Int) + (m : Int) = ((n + m : Nat) : Int) := by omega
        rw [e0]
        have hk := HN.out
        refine (grow_any _ (n + m) h0 (by omega)).mono ?_
        rintro e w1 ⟨v0, rfl, ho, hb⟩
        have HO := hid ho
        have HB := hid hb
        obtain ⟨a0, cc0, rfl⟩ := owns_slice ho
        clear ho hb hk e0
        go_wp2_with fail
        go_loopg [6, 27] 2 (fun gk v6 v27 wq => ∃ i : Nat, i + gk = 2 ∧ v27 = .int .i64 (i : Int) ∧ wq.ownsRow wr.heap.size 3 1 v6 (if i = 0 then [] else if i = 1 then l1 else l1 ++ l2).length (ivals (if i = 0 then [] else if i = 1 then l1 else l1 ++ l2)) ∧ Below wr.heap.size wr wq)
        case atStart => exact ⟨0, rfl, rfl, HO.out, HB.out⟩
        case round =>
          obtain ⟨i, hi, rfl, hoq, hbq⟩ := hrel
          clear HO HB c0 c1
          have HPQ := HP.out.below hbq
          obtain ⟨c0, c1⟩ := HPQ.at_
          clear HPQ
          by_cases hi0 : i = 0
          · subst hi0
            rw [if_pos rfl] at hoq
            obtain ⟨v', w', hrun, ho', hb'⟩ := append_all _ _ _ _ hoq a l1 n c HN.out (H1.out.below hbq) (by simp; omega) hbq.size
            have HO := hid ho'
            have HB := hid (hbq.trans hb')
            have HR := hid hrun
            obtain ⟨a9, c9, rfl⟩ := owns_slice hoq
            clear hoq hbq hrun ho' hb'
            have hlt : ((0 : Nat) : Int) < 2 := by omega
            go_wp2_with (at_builtin; refine step_app _ 33 rfl _ _ rfl _ _ rfl rfl _ _ HR.out ?_)
            go_roundg (gk - 1)
            case measure => omega
            case rel => exact ⟨1, by omega, rfl, by simpa using HO.out, HB.out⟩
          · by_cases hi1 : i = 1
            · subst hi1
              rw [if_neg (by omega), if_pos rfl] at hoq
              obtain ⟨v', w', hrun, ho', hb'⟩ := append_all _ _ _ _ hoq b l2 m d HM.out (H2.out.below hbq) (by rw [HN.out]; omega) hbq.size
              have HO := hid ho'
              have HB := hid (hbq.trans hb')
              have HR := hid hrun
              obtain ⟨a9, c9, rfl⟩ := owns_slice hoq
              clear hoq hbq hrun ho' hb'
              have hlt : ((1 : Nat) : Int) < 2 := by omega
              go_wp2_with (at_builtin; refine step_app _ 33 rfl _ _ rfl _ _ rfl rfl _ _ HR.out ?_)
              go_roundg (gk - 1)
              case measure => omega
              case rel => exact ⟨2, by omega, rfl, by simpa using HO.out, HB.out⟩
            · obtain rfl : i = 2 := by omega
              rw [if_neg (by omega), if_neg (by omega)] at hoq
              have hlt : ¬ ((2 : Nat) : Int) < 2 := by omega
              obtain ⟨a9, c9, rfl, h3, h4, h5, h6⟩ := srow_of_owns hoq
              have HL : Hid ((l1 ++ l2).length = n + m) := by show _ = _; rw [List.length_append, HN.out, HM.out]
              have HQ := hid (And.intro h3 (And.intro h4 (And.intro h5 (And.intro h6 hbq))))
              clear hoq hbq h3 h4 h5 h6
              go_wp2_with fail
              go_ret
              obtain ⟨h3, h4, h5, h6, hbq⟩ := HQ.out
              rw [HL.out] at h4
              exact ⟨a9, c9, by rw [← HN.out, ← HM.out]; rfl, h3, h4, h5, h6, hbq⟩
end Go.Proofs.Yteohjfhflodklaa
