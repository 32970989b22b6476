/- slices.Chunk: what its iterator hands out; and a region that draws its order within a round. No condition but sizes. -/
import Derived.Test.YteohjfhflodklaaLogK
import Derived.RangeFuncNested
import Derived.RangeFuncBound
import Derived.RangeFuncCalls
import Derived.RangeFuncLeaves
import Derived.RangeFuncFrom
import Derived.Shelf.Abstract
import Derived.Shelf.RegionOpen
import Derived.WalkKit
import Derived.OwnWalkIn
import Derived.TacticsInMore
import Derived.LoopNIn
import Derived.LoopIn
namespace Go.Proofs.Yteohjfhflodklaa
open Go.RowKit Go.Shelf Pen
set_option maxRecDepth 4000
/-! ### A region that draws its order, within a round -/
theorem upon_round {P : Program} {o : Oper} {a : Act} {K K' : Act → World → Prop} {Q : Exit → Act → World → Prop} {n l : Nat} (hK : ∀ a w, K a w → K' a w) (r : Result Next) (h : o.upon P a K Q r) : o.uponIn (Fence.wide.inRound l) n P a K' Q r := by
  cases r with
  | ok x w =>
    cases x
    case value v => exact hK _ _ h
    case skip => exact hK _ _ h
    case defer d => exact hK _ _ h
    case enter f args =>
      refine ⟨fun e => absurd e (by simp [Fence.wide]), CallsIn.inRound l (callsIn_wide.2 (Calls.mono h fun e w' he => ?_))⟩
      cases e with
      | returned v => exact hK _ _ he
      | panicked c => exact he
      | outgrown => exact he
    case row row args =>
      refine ⟨fun e => absurd e (by simp [Fence.wide]), fun c cs _ => ?_⟩
      obtain ⟨v, w', h1, h2⟩ := h c cs
      exact ⟨v, w', hK _ _ h1, stepsIn_wide.2 h2⟩
    all_goals exact h.elim
  | halt x w => cases x <;> first | exact h | exact h.elim
theorem op_round {P : Program} {o : Oper} {a : Act} {w : World} {K K' : Act → World → Prop} {Q : Exit → Act → World → Prop} {n l : Nat} (hK : ∀ a w, K a w → K' a w) (hd : ∀ c, o.op ≠ .defer c) (h : o.wp P a w K Q) : o.wpIn (Fence.wide.inRound l) n P a w K' Q := by
  refine ⟨fun _ _ => trivial, ?_⟩
  rw [show (Fence.wide.inRound l).round = some l from rfl, Oper.semAt_some l _ o hd]
  exact upon_round hK _ h
theorem any_round {P : Program} {md : Region.Mode} {ops : Array Oper} {Q : Exit → Act → World → Prop} {n l : Nat} (hd : ∀ (i : Nat) (o : Oper), ops[i]? = some o → ∀ c : Call, o.op ≠ .defer c) (hQ : ¬ LetsOut Q) : ∀ (fuel : Nat) (listed : Array Bool) (a : Act) (w : World), wpAny P md ops Q fuel listed a w → wpAnyIn (Fence.wide.inRound l) n P md ops Q fuel listed a w
  | 0, _, _, _, h => h
  | fuel + 1, listed, a, w, h => by
    refine ⟨h.1, fun i hi => ?_⟩
    have h2 := h.2 i hi
    unfold wpOp at h2
    unfold wpOpIn
    cases ho : ops[i]? with
    | none =>
      rw [ho] at h2
      exact any_round hd hQ fuel _ _ _ h2
    | some o =>
      rw [ho] at h2
      simp only at h2 ⊢
      by_cases hw : Region.wanted o (yielded ops a.tmps) = true
      · rw [if_pos hw] at h2 ⊢
        rcases h2 with h2 | h2
        · exact op_round (fun a w => any_round hd hQ fuel _ a w) (hd i o ho) h2
        · exact absurd h2.2 hQ
      · rw [if_neg hw] at h2 ⊢
        exact ⟨fun _ _ => trivial, any_round hd hQ fuel _ _ _ h2⟩
/-- The beginning of a region that draws its order within a round. -/
theorem region_round {P : Program} {ops : Array Oper} {Q : Exit → Act → World → Prop} {n l id : Nat} {a : Act} {w : World} (S : World → Prop) (hm : P.follows .mixedOrders = true) (hd : ∀ (i : Nat) (o : Oper), ops[i]? = some o → ∀ c : Call, o.op ≠ .defer c) (hQ : ¬ LetsOut Q) (hS : S w.drew)
    (h : S w.drew → wpAnyH P .any ops Q S ops.size (Array.replicate ops.size false) a w.drew) : (Code.region id ops true).wpIn (Fence.wide.inRound l) n P Q a w :=
  wpIn_region_any hm (any_round hd hQ _ _ _ _ (wpAny_of_held _ _ _ _ (h hS)))
/-! ### The iterator -/
def chunkV (b off m x : Nat) : Value := .slice (some ⟨b, off + 54 * x, none⟩) (min 54 (m - 54 * x)) (min 54 (m - 54 * x))
/-- Both boxes hold what they held. -/
def Boxes (y z : Nat) (W W' : World) : Prop := W'.cell? ⟨y, 0, none⟩ = W.cell? ⟨y, 0, none⟩ ∧ W'.cell? ⟨z, 0, none⟩ = W.cell? ⟨z, 0, none⟩
attribute [local go_sem] Oper.semAt_some
set_option maxRecDepth 100000 in
set_option maxHeartbeats 4000000 in
theorem chunk1_in (n : Nat) (hn : 1 ≤ n) (l y z b off m cap : Nat) (hm : m ≤ 1000000) (hmc : m ≤ cap) (J Jx : List Nat → World → Prop)
    (hY : ∀ pre x W, J pre W → pre.length < cnt m → YieldAt Fence.wide (n - 1) Try.prog l #[chunkV b off m x] W fun e W' =>
      (e = .returned (.bool true) ∧ J (pre ++ [x]) W' ∧ Boxes y z W W') ∨ (e = .returned (.bool false) ∧ Jx (pre ++ [x]) W'))
    (W : World) (hy : W.cell? ⟨y, 0, none⟩ = some (.slice (some ⟨b, off, none⟩) m cap)) (hz : W.cell? ⟨z, 0, none⟩ = some (.int .i64 54)) (h0 : J [] W) (hJ : AbidesFrom W.heap.size J) :
    CallsIn Fence.wide n Try.prog 60 #[.func (.yield l) #[] #[], .pointer (some ⟨y, 0, none⟩), .pointer (some ⟨z, 0, none⟩)] W fun e W' => (∃ v, e = .returned v) ∧
      ((∃ ys, ys = List.range (cnt m) ∧ J ys W') ∨ (∃ pre, True ∧ Jx pre W')) := by
  refine callsIn_of_wp Try.func60 rfl trivial ?_ rfl
  simp only [Try.ntmps60, List.size_toArray, List.length_cons, List.length_nil, Nat.reduceAdd, Nat.reduceSub, Array.replicate_succ, Array.replicate_zero, List.push_toArray, List.append_toArray, List.nil_append, List.cons_append]
  gi_wp2
  gi_loopw [4] (fun i wr => ∃ k : Nat, k ≤ cnt m ∧ i = .int .i64 ((54 * k : Nat) : Int) ∧ J (List.range k) wr ∧ wr.cell? ⟨y, 0, none⟩ = some (.slice (some ⟨b, off, none⟩) m cap) ∧ wr.cell? ⟨z, 0, none⟩ = some (.int .i64 54))
    (fun i _ => 54 * cnt m - (intOf i).toNat)
  case atStart => exact ⟨0, Nat.zero_le _, rfl, h0, hy, hz⟩
  case round =>
    obtain ⟨k, hk, rfl, hJs, hy1, hz1⟩ := hrel
    by_cases hlt : 54 * k < m
    · have hkc : k < cnt m := by unfold cnt; omega
      have hlt' : ((54 * k : Nat) : Int) < (m : Int) := by omega
      have hs1 := fun w => slice_from w (some ⟨b, off, none⟩) m cap (54 * k) (by omega)
      rw [fromA_some (by omega)] at hs1
      generalize hK : 54 * k = K at *
      by_cases h54 : m - K < 54
      · have h54' : ((m - K : Nat) : Int) < 54 := by omega
        have hE1 : ((K : Int) + ((m - K : Nat) : Int)).toNat - K = m - K := by omega
        gi_wp2
        refine wpIn_wide.2 ?_
        go_quiet (fail)
        have hJq : J (List.range k) (wr.drewN nq) := hJ _ _ _ none hJs ⟨rfl, rfl, rfl, Nat.le_refl _, fun _ _ _ => rfl⟩ (fun r e => by cases e)
        obtain ⟨fn, tmps, assign, body, hyy, hR⟩ := hY _ k (wr.drewN nq) hJq (by rw [List.length_range]; exact hkc)
        have hyq : (wr.drewN nq).cell? ⟨y, 0, none⟩ = some (.slice (some ⟨b, off, none⟩) m cap) := hy1
        have hzq : (wr.drewN nq).cell? ⟨z, 0, none⟩ = some (.int .i64 54) := hz1
        generalize wr.drewN nq = wq at *
        simp only [chunkV, hK] at hyy
        rw [Nat.min_eq_right (by omega)] at hyy
        gi_wp2
        refine hR.mono ?_
        rintro e W3 (⟨rfl, hJ3, hb3⟩ | ⟨rfl, hJx3⟩)
        · have hy3 := hb3.1.trans hyq
          have hz3 := hb3.2.trans hzq
          clear hyq hzq hyy hR
          gi_wp2
          go_roundw
          case rel => exact ⟨k + 1, by omega, by rw [show 54 * (k + 1) = K + 54 by omega]; simp, by rw [List.range_succ]; exact hJ3, hy3, hz3⟩
          case measure => simp [intOf]; unfold cnt at hkc ⊢; omega
        · gi_wp2
          refine bodyPost_ret (results_none rfl _ _ _) rfl ?_
          exact ⟨⟨_, rfl⟩, .inr ⟨_, trivial, hJx3⟩⟩
      · have h54' : ¬ ((m - K : Nat) : Int) < 54 := by omega
        have hE2 : ((K : Int) + 54).toNat - K = 54 := by omega
        gi_wp2
        refine wpIn_wide.2 ?_
        go_quiet (fail)
        have hJq : J (List.range k) (wr.drewN nq) := hJ _ _ _ none hJs ⟨rfl, rfl, rfl, Nat.le_refl _, fun _ _ _ => rfl⟩ (fun r e => by cases e)
        obtain ⟨fn, tmps, assign, body, hyy, hR⟩ := hY _ k (wr.drewN nq) hJq (by rw [List.length_range]; exact hkc)
        have hyq : (wr.drewN nq).cell? ⟨y, 0, none⟩ = some (.slice (some ⟨b, off, none⟩) m cap) := hy1
        have hzq : (wr.drewN nq).cell? ⟨z, 0, none⟩ = some (.int .i64 54) := hz1
        generalize wr.drewN nq = wq at *
        simp only [chunkV, hK] at hyy
        rw [Nat.min_eq_left (by omega)] at hyy
        gi_wp2
        refine hR.mono ?_
        rintro e W3 (⟨rfl, hJ3, hb3⟩ | ⟨rfl, hJx3⟩)
        · have hy3 := hb3.1.trans hyq
          have hz3 := hb3.2.trans hzq
          clear hyq hzq hyy hR
          gi_wp2
          go_roundw
          case rel => exact ⟨k + 1, by omega, by rw [show 54 * (k + 1) = K + 54 by omega]; simp, by rw [List.range_succ]; exact hJ3, hy3, hz3⟩
          case measure => simp [intOf]; unfold cnt at hkc ⊢; omega
        · gi_wp2
          refine bodyPost_ret (results_none rfl _ _ _) rfl ?_
          exact ⟨⟨_, rfl⟩, .inr ⟨_, trivial, hJx3⟩⟩
    · have hkc : k = cnt m := by unfold cnt at hk ⊢; omega
      subst hkc
      have hlt' : ¬ ((54 * cnt m : Nat) : Int) < (m : Int) := by omega
      gi_wp2
      go_end0
      exact ⟨⟨_, rfl⟩, .inl hJs⟩
end Go.Proofs.Yteohjfhflodklaa
