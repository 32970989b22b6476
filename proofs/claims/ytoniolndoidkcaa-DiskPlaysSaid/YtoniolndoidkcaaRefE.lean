/- What New of the document's own disk answers. Condition: at most 776 sectors. -/
import Derived.Test.YtoniolndoidkcaaRefD
import Derived.Deep.RegionLaw
namespace Go.Proofs.Ytoniolndoidkcaa
open Go.RowKit
theorem step_app2 {ops : Array Oper} {op : Oper} {a : Act} {w : World} {K : Act → World → Prop} {Q : Exit → Act → World → Prop} {E : Prop} (t : TypeId) (hgd : op.guard = none) (d s : Operand)
    (ho : op.op = .call { callee := .builtin .append, args := #[d, s], argTypes := #[t, t] }) (x y : Value) (hd : a.eval d = x) (hs : a.eval s = y) (v : Value) (w' : World) (hrun : (Builtin.append_ #[t, t] op.type #[x, y]).run Try.prog w = .ok v w')
    (h : K (a.put op.dst v) w') : if Region.wanted op (yielded ops a.tmps) = true then Oper.wp Try.prog op a w K Q else E := by
  have hw : Region.wanted op (yielded ops a.tmps) = true := by simp [Region.wanted, hgd]
  rw [if_pos hw]
  unfold Oper.wp
  simp [execOp, ho, resolve, invoke, builtin, hd, hs, hrun, Result.andThen]
  exact h
theorem step_app {ops : Array Oper} {rest : List Oper} {op : Oper} {a : Act} {w : World} {Q : Exit → Act → World → Prop} (t : TypeId) (hgd : op.guard = none) (d s : Operand)
    (ho : op.op = .call { callee := .builtin .append, args := #[d, s], argTypes := #[t, t] }) (x y : Value) (hd : a.eval d = x) (hs : a.eval s = y) (v : Value) (w' : World) (hrun : (Builtin.append_ #[t, t] op.type #[x, y]).run Try.prog w = .ok v w')
    (h : wpList Try.prog ops Q rest (a.put op.dst v) w') : wpList Try.prog ops Q (op :: rest) a w :=
  wpList_plain hgd fun _ hK => by
    unfold Oper.wp
    simp [execOp, ho, resolve, invoke, builtin, hd, hs, hrun, Result.andThen]
    exact hK _ _ h
theorem NewSt.drew {base : Nat} {w : World} {q a b c : Nat} {vF vC vD : Value} {fr cr : Nat → Nat} (h : NewSt base w q a b c vF vC vD fr cr) : NewSt base w.drew q a b c vF vC vD fr cr :=
  ⟨h.head, owns_kept h.oF fun _ _ => rfl, owns_kept h.oC fun _ _ => rfl, owns_kept h.oD fun _ _ => rfl, fun j hj => ⟨(h.rf j hj).1.kept rfl, (h.rf j hj).2⟩, fun j hj => ⟨(h.rc j hj).1.kept rfl, (h.rc j hj).2⟩, h.fi, h.ci, h.fc, h.ne, h.low⟩
theorem NewSt.cells {base : Nat} {w : World} {q a b c : Nat} {vF vC vD : Value} {fr cr : Nat → Nat} (h : NewSt base w q a b c vF vC vD fr cr) : w.cell? ⟨q, 0, none⟩ = some vF ∧ w.cell? ⟨q, 1, none⟩ = some vC ∧ w.cell? ⟨q, 2, none⟩ = some vD := by
  refine ⟨?_, ?_, ?_⟩ <;> rw [cell_of_row w q _ _ 47 (0, 0) h.head] <;> rfl
theorem NewSt.start (w : World) : NewSt w.heap.size (w.alloc (.cells #[.slice none 0 0, .slice none 0 0, .slice none 0 0, .int .i64 (-1), .int .i64 0, .bool false] 47)) w.heap.size 0 0 0 (.slice none 0 0) (.slice none 0 0) (.slice none 0 0) (fun _ => 0) (fun _ => 0) :=
  ⟨heap_alloc_new w _, World.ownsRow_nil _ _ 23 1, World.ownsRow_nil _ _ 23 1, World.ownsRow_nil _ _ 4 1, by simp, by simp, by simp, by simp, by simp, by simp [Value.ownBlock], Nat.le_refl _, by simp⟩
theorem owns_tab {w : World} {base n : Nat} {e : TypeId} {v : Value} {f : Nat → Value} {xs : List Value} (h : w.ownsRow base e 1 v n xs) (hn : 0 < n) (hx : ∀ i, i < n → xs[i]? = some (f i)) : ∃ g cap, v = .slice (some ⟨g, 0, none⟩) n cap ∧ Tab w g e n f ∧ base ≤ g := by
  rcases h.2 with ⟨_, h0⟩ | ⟨g, cap, cur, rfl, hb, hg, hc, hm, hs, ht⟩
  · omega
  · refine ⟨g, cap, rfl, ⟨cur, hg, fun i hi => ?_⟩, hb⟩
    have h2 := hx i hi
    rw [← ht, Nat.mul_one, List.getElem?_take, if_pos hi] at h2
    simpa using h2
/-- What has been made. -/
theorem NewSt.done {base : Nat} {w : World} {q n : Nat} {vF vC vD : Value} {fr cr : Nat → Nat} (h : NewSt base w q n n n vF vC vD fr cr) (hn : n ≤ 776) : ∃ R, RefOk base w q R (fresh n) := by
  have hfn : (fresh n).n = n := by simp [fresh, Dk.n]
  have hsec : ∀ i, (fresh n).sec i = blank := fun i => by
    by_cases hi : i < n
    · simp [fresh, Dk.sec, hi]
    · simp only [fresh, Dk.sec, List.getD_eq_getElem?_getD]
      rw [List.getElem?_eq_none (by simp; omega)]
      rfl
  have hok : allOk (fresh n).secs := by intro s hs; rw [List.eq_of_mem_replicate hs]; exact blank_ok
  by_cases h0 : n = 0
  · subst h0
    have e1 : ∀ {e : TypeId} {v : Value} {xs : List Value}, w.ownsRow base e 1 v 0 xs → ∃ a k, v = .slice a 0 k := fun h => by
      rcases h.2 with ⟨rfl, _⟩ | ⟨g, cap, cur, rfl, _⟩
      · exact ⟨none, 0, rfl⟩
      · exact ⟨_, _, rfl⟩
    obtain ⟨fa, kf, rfl⟩ := e1 h.oF
    obtain ⟨ca, kc, rfl⟩ := e1 h.oC
    obtain ⟨da, kd, rfl⟩ := e1 h.oD
    refine ⟨⟨0, 0, 0, fa, ca, da, kf, kc, kd, fr, cr, fun _ => 0, fun _ => 0, -1⟩, ?_⟩
    refine ⟨h.head, fun _ => rfl, fun n e => by simp [fresh] at e, ?_, ?_, ?_, ?_, ?_, ?_, ?_, ?_, ?_, ⟨h.low.1, ?_, ?_⟩, hok, by rw [hfn]; omega⟩ <;> (rw [hfn]; intro i; try omega)
    all_goals omega
  · have hp : 0 < n := by omega
    obtain ⟨F, kf, rfl, tF, bF⟩ := owns_tab (f := fun i => .slice (some ⟨fr i, 0, none⟩) 64 64) h.oF hp (fun i hi => by simp [hi])
    obtain ⟨C, kc, rfl, tC, bC⟩ := owns_tab (f := fun i => .slice (some ⟨cr i, 0, none⟩) 64 64) h.oC hp (fun i hi => by simp [hi])
    obtain ⟨D, kd, rfl, tD, bD⟩ := owns_tab (f := fun _ => .bool false) h.oD hp (fun i hi => by simp [hi])
    refine ⟨⟨F, C, D, some ⟨F, 0, none⟩, some ⟨C, 0, none⟩, some ⟨D, 0, none⟩, kf, kc, kd, fr, cr, fun _ => 64, fun _ => 64, -1⟩, ?_⟩
    refine ⟨?_, fun _ => rfl, fun n e => by simp [fresh] at e, fun _ => ⟨rfl, rfl, rfl⟩, ?_, ?_, ?_, ?_, ?_, ?_, ?_, ?_, ⟨h.low.1, fun _ => ⟨bF, bC, bD⟩, ?_⟩, hok, by rw [hfn]; exact hn⟩
    · rw [hfn]; exact h.head
    · rw [hfn]; exact fun _ => tF
    · rw [hfn]; exact fun _ => tC
    · rw [hfn]; exact fun _ => tD.congr fun i _ => by rw [hsec]; rfl
    · rw [hfn]; exact fun i hi => by rw [hsec]; exact (h.rf i hi).1
    · rw [hfn]; exact fun i hi => by rw [hsec]; exact (h.rc i hi).1
    · intro _ e; exact h.ne F rfl (by rw [Value.ownBlock]; exact congrArg some e.symm)
    · rw [hfn]; exact fun i j hi hj => ⟨h.fi i j hi hj, h.ci i j hi hj, h.fc i j hi hj⟩
    · intro i _; exact ⟨Nat.le_refl _, Nat.le_refl _⟩
    · rw [hfn]; exact fun i hi => ⟨(h.rf i hi).2, (h.rc i hi).2⟩
set_option maxHeartbeats 4000000 in
theorem rnew_any (w : World) (n : Nat) (hn : n ≤ 776) : Calls Try.prog 12 #[.int .i64 (n : Int)] w fun e w' => ∃ q, e = .returned (.pointer (some ⟨q, 0, none⟩)) ∧ (∃ R, RefOk w.heap.size w' q R (fresh n)) ∧ Below w.heap.size w w' := by
  have HST := hid (NewSt.start w)
  have HBS := hid (below_one w (.cells #[.slice none 0 0, .slice none 0 0, .slice none 0 0, .int .i64 (-1), .int .i64 0, .bool false] 47))
  have hmk := make64
  go_enter Try.func12, Try.ntmps12
  go_wp2_with fail
  go_loopg [4] n (fun k v wr => ∃ i : Nat, i + k = n ∧ v = .int .i64 (i : Int) ∧ (∃ vF vC vD fr cr, NewSt w.heap.size wr w.heap.size i i i vF vC vD fr cr) ∧ Below w.heap.size w wr)
  case atStart => exact ⟨0, by omega, rfl, ⟨_, _, _, _, _, HST.out⟩, HBS.out⟩
  case round =>
    obtain ⟨i, hk, rfl, ⟨vF, vC, vD, fr, cr, h1⟩, hb⟩ := hrel
    have HB := hid hb
    by_cases hi : i < n
    · have hii : (i : Int) < (n : Int) := by omega
      have h1d := h1.drew
      obtain ⟨g1, k1, x1, hrun1, hc1, hf1, ⟨vF', h2⟩, hb2⟩ := newF h1d (by omega) 44
      have c00 := h1.cells.1
      have hqlt : w.heap.size < wr.heap.size := (Array.getElem?_eq_some_iff.1 h1.head).1
      have cA : (wr.alloc (.cells (row8 zeros) 5)).cell? ⟨w.heap.size, 0, none⟩ = some vF := ((below_one wr (.cells (row8 zeros) 5)).cell (p := ⟨w.heap.size, 0, none⟩) hqlt).trans c00
      have cB : ((wr.alloc (.cells (row8 zeros) 5)).alloc (.cells #[.slice (some ⟨wr.heap.size, 0, none⟩) 64 64] 23)).cell? ⟨w.heap.size, 0, none⟩ = some vF := ((below_one (wr.alloc (.cells (row8 zeros) 5)) (.cells #[.slice (some ⟨wr.heap.size, 0, none⟩) 64 64] 23)).cell (p := ⟨w.heap.size, 0, none⟩) (by simp; omega)).trans cA
      have hrun1' : (Builtin.append_ #[44, 44] 44 #[vF, .slice (some ⟨wr.heap.size + 1, 0, none⟩) 1 1]).run Try.prog ((wr.alloc (.cells (row8 zeros) 5)).alloc (.cells #[.slice (some ⟨wr.heap.size, 0, none⟩) 64 64] 23)).drew = .ok (.slice (some ⟨g1, 0, none⟩) (i + 1) k1) x1 := hrun1
      have HRUN1 := hid hrun1'
      have H2 := hid h2
      have HB2 := hid (HB.out.trans ((Below.refl _ wr).drew.trans hb2))
      clear h1 h1d hrun1 hrun1' h2 hb2 hb
      go_wp2_with fail
      go_region_law (refine step_app2 44 rfl _ _ rfl _ _ rfl rfl _ x1 HRUN1.out ?_)
      all_goals (
        generalize x1.setCell ⟨w.heap.size, 0, none⟩ (.slice (some ⟨g1, 0, none⟩) (i + 1) k1) = W1 at H2 HB2 ⊢
        have h2 := H2.out
        have h2d := h2.drew
        obtain ⟨g2, k2, x2, hrun2, hc2, hf2, ⟨vC', h3⟩, hb3⟩ := newC h2d (by omega) 44
        have c10 := h2.cells.2.1
        have hqlt2 : w.heap.size < W1.heap.size := (Array.getElem?_eq_some_iff.1 h2.head).1
        have dA : (W1.alloc (.cells (row8 zeros) 5)).cell? ⟨w.heap.size, 1, none⟩ = some vC := ((below_one W1 (.cells (row8 zeros) 5)).cell (p := ⟨w.heap.size, 1, none⟩) hqlt2).trans c10
        have dB : ((W1.alloc (.cells (row8 zeros) 5)).alloc (.cells #[.slice (some ⟨W1.heap.size, 0, none⟩) 64 64] 23)).cell? ⟨w.heap.size, 1, none⟩ = some vC := ((below_one (W1.alloc (.cells (row8 zeros) 5)) (.cells #[.slice (some ⟨W1.heap.size, 0, none⟩) 64 64] 23)).cell (p := ⟨w.heap.size, 1, none⟩) (by simp; omega)).trans dA
        have hrun2' : (Builtin.append_ #[44, 44] 44 #[vC, .slice (some ⟨W1.heap.size + 1, 0, none⟩) 1 1]).run Try.prog ((W1.alloc (.cells (row8 zeros) 5)).alloc (.cells #[.slice (some ⟨W1.heap.size, 0, none⟩) 64 64] 23)).drew = .ok (.slice (some ⟨g2, 0, none⟩) (i + 1) k2) x2 := hrun2
        have HRUN2 := hid hrun2'
        have H3 := hid h3
        have HB3 := hid (HB2.out.trans ((Below.refl _ W1).drew.trans hb3))
        clear h2 h2d hrun2 hrun2' h3 hb3 c00 cA cB hc1 hf1 HRUN1 hqlt
        go_wp2_with fail
        go_region_law (refine step_app2 44 rfl _ _ rfl _ _ rfl rfl _ x2 HRUN2.out ?_)
        all_goals (
          generalize x2.setCell ⟨w.heap.size, 1, none⟩ (.slice (some ⟨g2, 0, none⟩) (i + 1) k2) = W2 at H3 HB3 ⊢
          have h3 := H3.out
          obtain ⟨g3, k3, x3, hrun3, hc3, hf3, ⟨vD', h4⟩, hb4⟩ := newD h3 (by omega) 45
          have c20 := h3.cells.2.2
          have HRUN3 := hid hrun3
          have H4 := hid h4
          have HB4 := hid (HB3.out.trans hb4)
          clear h3 hrun3 h4 hb4 c10 dA dB hc2 hf2 HRUN2 hqlt2
          have tok : True := trivial
          go_wp2_with (have _t := tok; refine step_app 45 rfl _ _ rfl _ _ rfl rfl _ x3 HRUN3.out ?_; clear tok)
          go_roundg (gk - 1)
          case measure => omega
          case rel => exact ⟨i + 1, by omega, by go_num, ⟨_, _, _, _, _, H4.out⟩, HB4.out⟩))
    · have hii : ¬ (i : Int) < (n : Int) := by omega
      obtain rfl : i = n := by omega
      obtain ⟨R, hR⟩ := h1.done hn
      have HR := hid hR
      clear h1 hR hb
      go_wp2_with fail
      go_ret
      exact ⟨_, rfl, ⟨R, HR.out⟩, HB.out⟩
end Go.Proofs.Ytoniolndoidkcaa
