/- Proved: the law 'CrcSums' (any bytes, cut anywhere: the sum goes on from the first part, and is that of bit by bit; four bytes, the lowest first) answers true, and what came in reads as it did. No condition. -/
import Derived.Test.YtoflfendomampaaFrame
import Derived.Deep.RegionHeld
import Derived.Deep.DrawnRows
namespace Go.Proofs.Ytoflfendomampaa
open Go.ChangeShapes Go.WideShapes Go.ChangeAt Go.RowKit Crc
attribute [local go_sem ↓] Go.wp_at_zero Go.wp_at_succ
set_option linter.unusedVariables false

set_option maxHeartbeats 1000000 in
theorem crcSums_walk (a : Option Addr) (l : List Nat) (cap : Nat) (cut c : Nat) (w : World) (hcut : cut < 65536) (hc : c < 4294967296) (hr : Row w a l) (hl : l.length ≤ 5000) (hcap : l.length ≤ cap) :
    Calls Try.prog 3 #[.slice a l.length cap, .int .u16 (cut : Int), .int .u32 (c : Int)] w fun e w' => e = .returned (.bool true) ∧ Below w.heap.size w w' := by
  obtain ⟨k, hk⟩ : ∃ k, cut % (l.length + 1) = k := ⟨_, rfl⟩
  have hkl : k ≤ l.length := by
    have := Nat.mod_lt cut (show 0 < l.length + 1 by omega)
    omega
  have hkk : (cut : Int) % ((l.length : Int) + 1) = (k : Int) := by rw [← hk]; simp
  have hs1 := fun w => slice_to w a l.length cap k (by omega)
  have hs2 := fun w => slice_from w a l.length cap k hkl
  have hrd := row_drop hr k cap hcap
  obtain ⟨A2, hA2⟩ : ∃ x, fromA a k cap = x := ⟨_, rfl⟩
  rw [hA2] at hs2 hrd
  have app : nx (nx 0 (l.take k)) (l.drop k) = nx 0 l := by
    rw [nx_append 0 _ _ (fun x hx => hr.1 x (List.mem_of_mem_take hx)), List.take_append_drop]
  have hS : ∀ W, Below w.heap.size w W → Calls Try.prog 9 #[.slice a l.length cap] W fun e w' => e = .returned (.int .u32 (nx 0 l : Nat)) ∧ Below w.heap.size w w' := fun W hW => sum_at rfl hr (by omega) hW
  have hSk : ∀ W, Below w.heap.size w W → Calls Try.prog 9 #[.slice a k cap] W fun e w' => e = .returned (.int .u32 (nx 0 (l.take k) : Nat)) ∧ Below w.heap.size w w' := fun W hW => sum_at (by simp; omega) (row_take hr k) (by simp; omega) hW
  have hR0 : ∀ W, Below w.heap.size w W → Calls Try.prog 10 #[.int .u32 0, .slice a l.length cap] W fun e w' => e = .returned (.int .u32 (nx 0 l : Nat)) ∧ Below w.heap.size w w' := fun W hW => ref_at 0 (by decide) rfl hr (by omega) hW
  have hR : ∀ W, Below w.heap.size w W → Calls Try.prog 10 #[.int .u32 (c : Int), .slice a l.length cap] W fun e w' => e = .returned (.int .u32 (nx c l : Nat)) ∧ Below w.heap.size w w' := fun W hW => ref_at c hc rfl hr (by omega) hW
  have hN : ∀ W, Below w.heap.size w W → Calls Try.prog 11 #[.int .u32 (c : Int), .slice a l.length cap] W fun e w' => e = .returned (.int .u32 (nx c l : Nat)) ∧ Below w.heap.size w w' := fun W hW => next_at c hc rfl hr (by omega) hW
  have hNk : ∀ W, Below w.heap.size w W → Calls Try.prog 11 #[.int .u32 (nx 0 (l.take k) : Nat), .slice A2 (l.length - k) (cap - k)] W fun e w' => e = .returned (.int .u32 (nx 0 l : Nat)) ∧ Below w.heap.size w w' := fun W hW => by
    rw [← app]
    exact next_at _ (nx_lt _ _) (by simp) hrd (by simp; omega) hW
  obtain ⟨s0, hs0⟩ : ∃ x, nx 0 l = x := ⟨_, rfl⟩
  obtain ⟨s1, hs1'⟩ : ∃ x, nx 0 (l.take k) = x := ⟨_, rfl⟩
  obtain ⟨s2, hs2'⟩ : ∃ x, nx c l = x := ⟨_, rfl⟩
  rw [hs0] at hS hR0 hNk
  rw [hs1'] at hSk hNk
  rw [hs2'] at hR hN
  have hB : ∀ W, Below w.heap.size w W → _ := fun W hW => bytes_at c hc hW
  have hF : ∀ W, Below w.heap.size w W → _ := fun W hW => four_at c hc hW
  obtain ⟨n, hn⟩ : ∃ n, l.length = n := ⟨_, rfl⟩
  obtain ⟨n2, hn2⟩ : ∃ n2, l.length - k = n2 := ⟨_, rfl⟩
  rw [hn] at hl hcap hkl hkk hs1 hs2 hS hR0 hR hN ⊢
  rw [hn] at hn2 hNk
  rw [hn2] at hNk hs2
  clear hs0 hs1' hs2' app hrd hr hA2 hk hn hn2
  go_enter Try.func3, Try.ntmps3
  go_wp2_with fail
  refine (awake_any _).mono ?_
  rintro e w0 ⟨rfl, hb0⟩
  go_wp2_with fail
  go_region_held (fun w' => Below w.heap.size w w') (first | assumption | (refine Below.drew ?_; assumption) | (refine Below.alloc ?_ ?_ _; assumption; exact Below.size (by assumption))) (first
    | (go_at_call_of 9 n; refine (hS _ ?_).mono ?_; assumption; rintro e w1 ⟨rfl, hb1⟩)
    | (go_at_call_of 9 k; refine (hSk _ ?_).mono ?_; assumption; rintro e w1 ⟨rfl, hb1⟩)
    | (go_at_call_of 10 c; refine (hR _ ?_).mono ?_; assumption; rintro e w1 ⟨rfl, hb1⟩)
    | (go_at_call 10; refine (hR0 _ ?_).mono ?_; assumption; rintro e w1 ⟨rfl, hb1⟩)
    | (go_at_call_of 11 c; refine (hN _ ?_).mono ?_; assumption; rintro e w1 ⟨rfl, hb1⟩)
    | (go_at_call_of 11 s1; refine (hNk _ ?_).mono ?_; assumption; rintro e w1 ⟨rfl, hb1⟩)
    | (go_at_call 12; refine (hB _ ?_).mono ?_; assumption; rintro e w1 ⟨g1, rfl, hb1, hb2, hb3, hg1⟩; replace hg1 := str_at (cap := 4) hg1 (n := 4) rfl (by simp [four]))
    | (go_at_call 13; refine (hF _ ?_).mono ?_; assumption; rintro e w1 ⟨g1, rfl, hb1, hb2, hb3, hg1⟩; replace hg1 := str_at (cap := 4) hg1 (n := 4) rfl (by simp [four])))
  all_goals
    go_wp2_with fail
    go_ret
    exact ⟨rfl, by assumption⟩
theorem crcSums_long (a : Option Addr) (n cap : Nat) (cut c : Nat) (w : World) (hcut : cut < 65536) (hl : 5000 < n) (hm : n ≤ 9223372036854775807) :
    Calls Try.prog 3 #[.slice a n cap, .int .u16 (cut : Int), .int .u32 (c : Int)] w fun e w' => e = .returned (.bool true) ∧ Below w.heap.size w w' := by
  go_enter Try.func3, Try.ntmps3
  go_wp2_with fail
  refine (awake_any _).mono ?_
  rintro e w0 ⟨rfl, hb0⟩
  go_wp2_with fail
  go_ret
  exact ⟨rfl, hb0⟩
theorem crcSums_all (a0 : Option Addr) (len0 cap0 : Nat) (z0 : List Int) (a1 : Int) (a2 : Int) (w : World) (w0 : IsRow .u8 w a0 len0 cap0 z0) (w1 : (Lit.int .u16 a1).wf = true) (w2 : (Lit.int .u32 a2).wf = true) :
    Calls Try.prog 3 #[.slice a0 len0 cap0, .int .u16 a1, .int .u32 a2] w fun e w' => e = .returned (.bool true) ∧ Below w.heap.size w w' := by
  obtain ⟨l, rfl, hr, hcap, hm⟩ := bytes_of w0
  obtain ⟨cut, rfl, hcut⟩ := nat_u16 w1
  obtain ⟨c, rfl, hc⟩ := nat_u32 w2
  by_cases hl : l.length ≤ 5000
  · exact crcSums_walk a0 l cap0 cut c w hcut hc hr hl hcap
  · exact crcSums_long a0 l.length cap0 cut c w hcut (by omega) (by unfold maxLen at hm; omega)

set_option maxRecDepth 100000 in
theorem crcSums_lifted (os : Os) (started : os.Started) (H : Type) (enc : TypeId × Value → H) :
    ReturnsInHanded {} Try.checked os 3 .any (Rows.crcSumsSpec.pre6 enc Try.prog Try.f3 Rows.crcSumsRow.domain false) (Rows.crcSumsSpec.post enc Try.prog Try.f3 false true false false) := by
  refine returnsInHanded_of_change (C := Try.checked) own started (by kernel_rfl) Try.func3
    (ChangeSpec.witness6 (enc := enc) (C := Try.checked) false ⟨#[], #[.slice none 0 0, .int .u16 0, .int .u32 0], []⟩ 8 (by kernel_rfl) (by kernel_rfl) (by kernel_rfl) (by kernel_rfl)) ?_
  intro W base args ds gs before hval0 hW hcnd _
  have hval : ∀ (j : Nat) t v, Try.f3.params[j]? = some t → args[j]? = some v → Value.okWide Try.prog W .any base t v := hval0
  have hW' := hW
  obtain ⟨p, q, hA0, hV, rfl, hfz, hnd⟩ := hW
  have hA : DataW.TrodAll enc Try.prog W 0 (fun _ => true) true Try.f3.params.toList args.toList ds p := hA0
  rw [Try.params3] at hA hval
  obtain ⟨v0, vs0, d0, ds0, p0, q0, hargs, rfl, rfl, h0, r0⟩ := trodAll_cons hA
  obtain ⟨v1, vs1, d1, ds1, p1, q1, rfl, rfl, rfl, h1, r1⟩ := trodAll_cons r0
  obtain ⟨v2, vs2, d2, ds2, p2, q2, rfl, rfl, rfl, h2, r2⟩ := trodAll_cons r1
  obtain ⟨rfl, rfl, rfl⟩ := trodAll_nil r2
  obtain rfl : args = #[v0, v1, v2] := by cases args; simp_all
  obtain ⟨rfl, rfl⟩ := trodVars_none hV
  obtain ⟨a0, len0, cap0, rfl⟩ := okWide_slice Try.underlying22 (hval 0 22 v0 rfl rfl)
  have k0 := h0
  have lt0 : ∀ x ∈ p0, x.block < W.heap.size := by obtain ⟨m, hm⟩ := k0; exact DataW.trod_lt m _ _ _ hm
  obtain ⟨z0, w0⟩ : ∃ zs, IsRow .u8 W a0 len0 cap0 zs := by
    obtain ⟨fuel, hf⟩ := h0
    rcases open_ints Try.underlying22 Try.underlying5 (by kernel_rfl) hf with ⟨hcs, _⟩ | ⟨x, l, c, zs, hcs, _, hl, hm, hz, _, hcell, hwz⟩
    · simp [Value.cells] at hcs
      obtain ⟨rfl, rfl, rfl⟩ := hcs
      exact ⟨[], .inl ⟨rfl, rfl, rfl, rfl⟩⟩
    · simp [Value.cells] at hcs
      obtain ⟨rfl, rfl, rfl⟩ := hcs
      exact ⟨zs, .inr ⟨_, rfl, hl, hm, by simpa using hz, hcell, hwz⟩⟩
  obtain ⟨a1, rfl, rfl, rfl, w1⟩ := open_int Try.underlying23 (hval 1 23 v1 rfl rfl) h1
  obtain ⟨a2, rfl, rfl, rfl, w2⟩ := open_int Try.underlying24 (hval 2 24 v2 rfl rfl) h2
  clear hA0 hval0
  refine (crcSums_all a0 len0 cap0 z0 a1 a2 W w0 w1 w2).mono fun e W' ⟨he, bel⟩ => ?_
  subst he
  exact ⟨_, rfl, _, _, _, [], _, [], hW', trodAll_mk1 (shut_bool Try.underlying4 _), (trodAll_cons_mk (Below.trod laidOut (by kernel_rfl) (of_decide_eq_true (by kernel_rfl)) k0 bel lt0) (trodAll_cons_mk (shut_int Try.underlying23 w1) (trodAll_cons_mk (shut_int Try.underlying24 w2) trodAll_mk0))), rfl, bel.frame _, fun h => by cases h⟩

theorem crcSums_over : Rows.crcSumsRow.holds Try.pinned (OpenSpec.ofChange Rows.crcSumsSpec) :=
  OpenClaim.holds_of_wide 3 Try.f3 rfl rfl rfl rfl rfl rfl rfl ⟨rfl, rfl, rfl, rfl, rfl⟩ rfl rfl rfl rfl rfl (by kernel_rfl) Try.func3 (by kernel_rfl)
    (of_decide_eq_true (by kernel_rfl)) (by unfold Func.isWrapper; first | (rw [if_pos (by decide +kernel)]; kernel_rfl) | (rw [if_neg (by decide +kernel)]; exact ⟨rfl, rfl⟩))
    (fun os started H enc _ => crcSums_lifted os started H enc)

theorem crcSums_holds : Rows.CrcSumsSaid := crcSums_over
#print axioms crcSums_holds
end Go.Proofs.Ytoflfendomampaa
