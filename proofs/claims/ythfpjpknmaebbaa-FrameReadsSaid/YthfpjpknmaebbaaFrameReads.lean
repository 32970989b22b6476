/- FrameReads: any bytes, behind any last: what they begin with, or none. No condition. -/
import Derived.Test.YthfpjpknmaebbaaAwake
namespace Go.Proofs.Ythfpjpknmaebbaa
open Go.ChangeShapes Go.WideShapes Go.ChangeAt Go.RowKit Pen
open Crc (four nx run)
set_option maxRecDepth 4000
set_option maxRecDepth 10000 in
set_option maxHeartbeats 4000000 in
theorem frameReads_walk (last : Nat) (hlast : last < 4294967296) (a : Option Addr) (X : List Nat) (n cap : Nat) (w : World) (hn : X.length = n) (hcap : n ≤ cap) (hr : Row w a X) :
    Calls Try.prog 4 #[.int .u32 (last : Int), .slice a n cap] w fun e w' => e = .returned (.bool true) ∧ Below w.heap.size w w' := by
  have HR := hid hr
  have HN := hid hn
  clear hr hn
  by_cases h4 : 40000 < n
  · have hi : (40000 : Int) < (n : Int) := by omega
    go_enter Try.func4, Try.ntmps4
    go_wp2_with fail
    refine (awake_any w).mono ?_
    rintro e w1 ⟨rfl, hb1⟩
    have HB1 := hid hb1
    clear hb1
    go_wp2_with fail
    go_ret
    exact ⟨rfl, HB1.out⟩
  have hi : ¬ (40000 : Int) < (n : Int) := by omega
  go_enter Try.func4, Try.ntmps4
  go_wp2_with fail
  refine (awake_any w).mono ?_
  rintro e w1 ⟨rfl, hb1⟩
  have HB1 := hid hb1
  clear hb1
  go_wp2_with fail
  refine (read_any last a X n cap w1 hlast HN.out hcap (HR.out.below HB1.out)).mono ?_
  rintro e w2 ⟨hrd, hb2⟩
  have HB2 := hid (HB1.out.trans (hb2.mono HB1.out.size))
  have HU := hid (unframe_any last a X n cap w2 hlast HN.out hcap (HR.out.below HB2.out))
  clear hb2 HB1
  cases ho : rd last X with
  | none =>
    rw [ho] at hrd HU
    obtain rfl := readen_none hrd
    clear hrd ho
    go_wp2_with fail
    refine HU.out.mono ?_
    rintro e w3 ⟨hrd, hb3⟩
    obtain rfl := readen_none hrd
    have HB3 := hid (HB2.out.trans (hb3.mono HB2.out.size))
    have hs : (convert 23 9 (.slice none 0 0)).run Try.prog w3 = .ok (.string (strOf [])) w3 := str_any w3 none [] 0 0 rfl (row_nil _ _)
    generalize strOf [] = S at *
    clear hrd hb3 HU
    go_wp2_with fail
    go_ret
    exact ⟨rfl, HB3.out⟩
  | some p =>
    obtain ⟨r, b⟩ := p
    rw [ho] at hrd HU
    obtain ⟨a2, n2, c2, rfl, hn2, hr2⟩ := readen_some hrd
    have HR2 := hid hr2
    have HN2 := hid hn2
    clear hrd ho hr2 hn2
    generalize hx : nx last r = x at *
    have HX := hid hx
    clear hx
    go_wp2_with fail
    refine HU.out.mono ?_
    rintro e w3 ⟨hrd, hb3⟩
    obtain ⟨a3, n3, c3, rfl, hn3, hr3⟩ := readen_some hrd
    rw [HX.out]
    have HB3 := hid (HB2.out.trans (hb3.mono HB2.out.size))
    have hs : (convert 23 9 (.slice a2 n2 c2)).run Try.prog w3 = .ok (.string (strOf r)) w3 := str_any w3 _ r n2 c2 HN2.out (HR2.out.below hb3)
    have hs2 : (convert 23 9 (.slice a3 n3 c3)).run Try.prog w3 = .ok (.string (strOf r)) w3 := str_any w3 _ r n3 c3 hn3 hr3
    generalize strOf r = S at *
    clear hrd hb3 HU hn3 hr3
    go_wp2_with fail
    go_ret
    exact ⟨rfl, HB3.out⟩
set_option linter.unusedVariables false
theorem frameReads_all (a0 : Int) (a1 : Option Addr) (len1 cap1 : Nat) (z1 : List Int) (w : World) (w0 : (Lit.int .u32 a0).wf = true) (w1 : IsRow .u8 w a1 len1 cap1 z1) :
    Calls Try.prog 4 #[.int .u32 a0, .slice a1 len1 cap1] w fun e w' => e = .returned (.bool true) ∧ Below w.heap.size w w' := by
  have hb0 := bounds_u32 w0
  obtain ⟨n0, rfl⟩ : ∃ n : Nat, a0 = (n : Int) := ⟨a0.toNat, by omega⟩
  obtain ⟨l, hl, hr, hc, _⟩ := bytes_of w1
  exact frameReads_walk n0 (by omega) a1 l len1 cap1 w hl hc hr

set_option maxRecDepth 100000 in
theorem frameReads_lifted (os : Os) (started : os.Started) (H : Type) (enc : TypeId × Value → H) :
    ReturnsInHanded {} Try.checked os 4 .any (Rows.frameReadsSpec.pre6 enc Try.prog Try.f4 Rows.frameReadsRow.domain false) (Rows.frameReadsSpec.post enc Try.prog Try.f4 false true false false) := by
  refine returnsInHanded_of_change (C := Try.checked) own started (by kernel_rfl) Try.func4
    (ChangeSpec.witness6 (enc := enc) (C := Try.checked) false ⟨#[], #[.int .u32 0, .slice none 0 0], []⟩ 8 (by kernel_rfl) (by kernel_rfl) (by kernel_rfl) (by kernel_rfl)) ?_
  intro W base args ds gs before hval0 hW hcnd _
  have hval : ∀ (j : Nat) t v, Try.f4.params[j]? = some t → args[j]? = some v → Value.okWide Try.prog W .any base t v := hval0
  have hW' := hW
  obtain ⟨p, q, hA0, hV, rfl, hfz, hnd⟩ := hW
  have hA : DataW.TrodAll enc Try.prog W 0 (fun _ => true) true Try.f4.params.toList args.toList ds p := hA0
  rw [Try.params4] at hA hval
  obtain ⟨v0, vs0, d0, ds0, p0, q0, hargs, rfl, rfl, h0, r0⟩ := trodAll_cons hA
  obtain ⟨v1, vs1, d1, ds1, p1, q1, rfl, rfl, rfl, h1, r1⟩ := trodAll_cons r0
  obtain ⟨rfl, rfl, rfl⟩ := trodAll_nil r1
  obtain rfl : args = #[v0, v1] := by cases args; simp_all
  obtain ⟨rfl, rfl⟩ := trodVars_none hV
  obtain ⟨a0, rfl, rfl, rfl, w0⟩ := open_int Try.underlying25 (hval 0 25 v0 rfl rfl) h0
  obtain ⟨a1, len1, cap1, rfl⟩ := okWide_slice Try.underlying23 (hval 1 23 v1 rfl rfl)
  have k1 := h1
  have lt1 : ∀ x ∈ p1, x.block < W.heap.size := by obtain ⟨m, hm⟩ := k1; exact DataW.trod_lt m _ _ _ hm
  obtain ⟨z1, w1⟩ : ∃ zs, IsRow .u8 W a1 len1 cap1 zs := by
    obtain ⟨fuel, hf⟩ := h1
    rcases open_ints Try.underlying23 Try.underlying5 (by kernel_rfl) hf with ⟨hcs, _⟩ | ⟨x, l, c, zs, hcs, _, hl, hm, hz, _, hcell, hwz⟩
    · simp [Value.cells] at hcs
      obtain ⟨rfl, rfl, rfl⟩ := hcs
      exact ⟨[], .inl ⟨rfl, rfl, rfl, rfl⟩⟩
    · simp [Value.cells] at hcs
      obtain ⟨rfl, rfl, rfl⟩ := hcs
      exact ⟨zs, .inr ⟨_, rfl, hl, hm, by simpa using hz, hcell, hwz⟩⟩
  clear hA0 hval0
  refine (frameReads_all a0 a1 len1 cap1 z1 W w0 w1).mono fun e W' ⟨he, bel⟩ => ?_
  subst he
  exact ⟨_, rfl, _, _, _, [], _, [], hW', trodAll_mk1 (shut_bool Try.underlying4 _), (trodAll_cons_mk (shut_int Try.underlying25 w0) (trodAll_cons_mk (Below.trod laidOut (by kernel_rfl) (of_decide_eq_true (by kernel_rfl)) k1 bel lt1) trodAll_mk0)), rfl, bel.frame _, fun h => by cases h⟩

theorem frameReads_over : Rows.frameReadsRow.holds Try.pinned (OpenSpec.ofChange Rows.frameReadsSpec) :=
  OpenClaim.holds_of_wide 4 Try.f4 rfl rfl rfl rfl rfl rfl rfl ⟨rfl, rfl, rfl, rfl, rfl⟩ rfl rfl rfl rfl rfl (by kernel_rfl) Try.func4 (by kernel_rfl)
    (of_decide_eq_true (by kernel_rfl)) (by unfold Func.isWrapper; first | (rw [if_pos (by decide +kernel)]; kernel_rfl) | (rw [if_neg (by decide +kernel)]; exact ⟨rfl, rfl⟩))
    (fun os started H enc _ => frameReads_lifted os started H enc)

theorem frameReads_holds : Rows.FrameReadsSaid := frameReads_over
#print axioms frameReads_holds
end Go.Proofs.Ythfpjpknmaebbaa
