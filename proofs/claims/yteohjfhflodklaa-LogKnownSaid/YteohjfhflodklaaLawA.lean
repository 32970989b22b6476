/- What the statements' own helpers do: Small, sectors, same. No condition. -/
import Derived.Test.YteohjfhflodklaaLogT
import Derived.Test.YteohjfhflodklaaLogM
namespace Go.Proofs.Yteohjfhflodklaa
open Go.ChangeShapes Go.WideShapes Go.ChangeAt Go.RowKit Pen
set_option maxRecDepth 4000
theorem lsectors_any (w : World) (a : Option Addr) (n c : Nat) (hn : n ≤ 16384) : Calls Try.prog 17 #[.slice a n c] w fun e w' => e = .returned (.int .i64 (cnt (n + 16) : Nat)) ∧ w' = w := by
  have HC : Hid (((n : Int) + 16 + 54 - 1) / 54 = (cnt (n + 16) : Nat)) := by show _ = _; unfold cnt; omega
  go_enter Try.func17, Try.ntmps17
  go_wp2_with fail
  go_ret
  exact ⟨by rw [← HC.out]; rfl, rfl⟩
/-- What Small answers. -/
def SmallR (n : Nat) (e : Ending) : Prop := ∃ b : Bool, e = .returned (.bool b) ∧ (b = true → n ≤ 60)
theorem grid_len {H : Type} {enc : TypeId × Value → H} {w : World} {fuel : Nat} {a : Option Addr} {len cap : Nat} {x : DataW H × List MemPlace} (h : DataW.trod enc Try.prog w 0 (fun _ => true) true fuel 22 (Value.slice a len cap).cells.toList = some x) : len ≤ maxLen := by
  rcases Go.Deep.open_int_rows Try.underlying22 Try.underlying40 Try.underlying5 (by kernel_rfl) (by kernel_rfl) h with ⟨hcs, _⟩ | ⟨y, l, c, A, L, C, Z, hcs, _, hl, hm, _, hr⟩
  · simp [Value.cells] at hcs
    omega
  · simp [Value.cells] at hcs
    omega
theorem small_any {w : World} (a : Option Addr) (ls : List (List Nat)) (n c : Nat) (hn : ls.length = n) (hnm : n ≤ maxLen) (hg : Grid w a ls) : Calls Try.prog 10 #[.slice a n c] w fun e w' => SmallR n e ∧ w' = w := by
  have HN := hid hn
  have HG := hid hg
  have h63 : n ≤ 9223372036854775807 := by unfold maxLen at hnm; omega
  clear hn hg hnm
  go_enter Try.func10, Try.ntmps10
  go_wp2_with fail
  go_loopg [3, 4] n (fun gk v3 v4 wr => ∃ (i : Nat) (z : Int), i + gk = n ∧ v4 = .int .i64 (i : Int) ∧ v3 = .int .i64 z ∧ wr = w)
  case atStart => exact ⟨0, 0, by omega, rfl, rfl, rfl⟩
  case round =>
    obtain ⟨i, z, hi, rfl, rfl, rfl⟩ := hrel
    by_cases hlt : i < n
    · have hlt' : (i : Int) < (n : Int) := by omega
      obtain ⟨b, off, rfl, hc⟩ := HG.out.at_ (by intro e; rw [e] at HN; have := HN.out; simp at this; omega)
      obtain ⟨ai, ci, hci, hri⟩ := hc i (by rw [HN.out]; exact hlt)
      clear hc hri
      go_wp2_with fail
      go_roundg (gk - 1)
      case measure => omega
      case rel => exact ⟨i + 1, _, by omega, by go_num, rfl, rfl⟩
    · have hlt' : ¬ (i : Int) < (n : Int) := by omega
      by_cases h60 : n ≤ 60
      · have h60' : (n : Int) ≤ 60 := by omega
        go_wp2_with fail
        go_ret
        exact ⟨⟨_, rfl, fun _ => h60⟩, rfl⟩
      · have h60' : ¬ (n : Int) ≤ 60 := by omega
        go_wp2_with fail
        go_ret
        exact ⟨⟨false, rfl, fun e => by simp at e⟩, rfl⟩
set_option maxHeartbeats 1000000 in
theorem same_any {w : World} (a b : Option Addr) (ls ms : List (List Nat)) (n c k d : Nat) (hn : ls.length = n) (hk : ms.length = k) (h1 : Grid w a ls) (h2 : Grid w b ms) (hn1 : n ≤ 1000000) : Calls Try.prog 19 #[.slice a n c, .slice b k d] w fun e w' => e = .returned (.bool (decide (ls = ms))) ∧ ∃ j, w' = w.drewN j := by
  by_cases hnk : n = k
  · subst hnk
    have hne : ((n : Int) != (n : Int)) = false := by simp
    have HN := hid hn
    have HK := hid hk
    have H1 := hid h1
    have H2 := hid h2
    clear hn hk h1 h2
    go_enter Try.func19, Try.ntmps19
    go_wp2_with fail
    go_loopg [5] n (fun gk v5 wr => ∃ (i : Nat), i + gk = n ∧ v5 = .int .i64 (i : Int) ∧ (∀ j, j < i → ls.getD j [] = ms.getD j []) ∧ ∃ j, wr = w.drewN j)
    case atStart => exact ⟨0, by omega, rfl, fun j hj => by omega, 0, rfl⟩
    case round =>
      obtain ⟨i, hi, rfl, hall, j0, rfl⟩ := hrel
      have HA := hid hall
      clear hall
      by_cases hlt : i < n
      · have hlt' : (i : Int) < (n : Int) := by omega
        obtain ⟨b1, o1, rfl, hc1⟩ := H1.out.at_ (by intro e; rw [e] at HN; have := HN.out; simp at this; omega)
        obtain ⟨b2, o2, rfl, hc2⟩ := H2.out.at_ (by intro e; rw [e] at HK; have := HK.out; simp at this; omega)
        obtain ⟨a1, d1, e1, r1⟩ := hc1 i (by rw [HN.out]; exact hlt)
        obtain ⟨a2, d2, e2, r2⟩ := hc2 i (by rw [HK.out]; exact hlt)
        have e1' : (w.drewN j0).cell? ⟨b1, o1 + i, none⟩ = some (.slice a1 (ls.getD i []).length d1) := e1
        have e2' : (w.drewN j0).cell? ⟨b2, o2 + i, none⟩ = some (.slice a2 (ms.getD i []).length d2) := e2
        have cv1 : ∀ m, (convert 40 9 (.slice a1 (ls.getD i []).length d1)).run Try.prog ((w.drewN j0).drewN m) = .ok (.string (strOf (ls.getD i []))) ((w.drewN j0).drewN m) := fun m => str_any _ _ _ _ _ rfl ⟨r1.1, r1.2⟩
        have cv2 : ∀ m, (convert 40 9 (.slice a2 (ms.getD i []).length d2)).run Try.prog ((w.drewN j0).drewN m) = .ok (.string (strOf (ms.getD i []))) ((w.drewN j0).drewN m) := fun m => str_any _ _ _ _ _ rfl ⟨r2.1, r2.2⟩
        have hss := strs_same (ls.getD i []) (ms.getD i []) r1.1 r2.1
        have hdr : ∀ m, ∃ j, (w.drewN j0).drewN m = w.drewN j := fun m => ⟨j0 + m, by simp [World.drewN, Nat.add_assoc]⟩
        have HDR := hid hdr
        clear hc1 hc2 r1 r2 e1 e2 hdr
        generalize hx : ls.getD i [] = X at *
        generalize hy : ms.getD i [] = Y at *
        have HXY := hid (And.intro hx hy)
        clear hx hy
        generalize strOf X = SX at *
        generalize strOf Y = SY at *
        generalize w.drewN j0 = wj at *
        generalize X.length = nx1 at *
        generalize Y.length = ny1 at *
        cases hd : decide (X = Y) with
        | true =>
          rw [hd] at hss
          have HD := hid hd
          clear hd
          go_wp2_with fail
          go_quiet (fail)
          obtain ⟨jj, hjj⟩ := HDR.out nq
          rw [hjj]
          go_wp2_with fail
          go_roundg (gk - 1)
          case measure => omega
          case rel =>
            refine ⟨i + 1, by omega, by go_num, fun j hj => ?_, jj, rfl⟩
            rcases Nat.lt_succ_iff_lt_or_eq.1 hj with h | rfl
            · exact HA.out j h
            · rw [HXY.out.1, HXY.out.2]; exact of_decide_eq_true HD.out
        | false =>
          rw [hd] at hss
          have HD := hid hd
          clear hd
          have hfin : Hid (decide (ls = ms) = false) := by
            apply decide_eq_false
            intro e
            have h9 := of_decide_eq_false HD.out
            apply h9
            rw [← HXY.out.1, ← HXY.out.2, e]
          go_wp2_with fail
          go_quiet (fail)
          obtain ⟨jj, hjj⟩ := HDR.out nq
          rw [hjj]
          go_wp2_with fail
          go_ret
          exact ⟨by rw [hfin.out]; rfl, _, rfl⟩
      · have hlt' : ¬ (i : Int) < (n : Int) := by omega
        have hfin : Hid (decide (ls = ms) = true) := by
          apply decide_eq_true
          have hin : i = n := by omega
          apply List.ext_getElem?
          intro j
          by_cases hj : j < n
          · have := HA.out j (by omega)
            rw [List.getD_eq_getElem?_getD, List.getD_eq_getElem?_getD, List.getElem?_eq_getElem (by rw [HN.out]; exact hj), List.getElem?_eq_getElem (by rw [HK.out]; exact hj)] at this
            rw [List.getElem?_eq_getElem (by rw [HN.out]; exact hj), List.getElem?_eq_getElem (by rw [HK.out]; exact hj)]
            exact congrArg some this
          · rw [List.getElem?_eq_none (by rw [HN.out]; omega), List.getElem?_eq_none (by rw [HK.out]; omega)]
        have hwj : Hid (∃ j, w.drewN j0 = w.drewN j) := ⟨_, rfl⟩
        generalize w.drewN j0 = wj at *
        go_wp2_with fail
        go_ret
        exact ⟨by rw [hfin.out]; rfl, hwj.out⟩
  · have hne : ((n : Int) != (k : Int)) = true := by simp; omega
    have hfin : Hid (decide (ls = ms) = false) := by
      apply decide_eq_false
      intro e
      apply hnk
      rw [← hn, ← hk, e]
    rw [hfin.out]
    clear hn hk h1 h2
    go_enter Try.func19, Try.ntmps19
    go_wp2_with fail
    go_ret
    exact ⟨rfl, 0, rfl⟩
end Go.Proofs.Yteohjfhflodklaa
