/- CutSizes: the number of pieces; the rest is cut alike from the end of any piece on. No condition. -/
import Derived.Test.YtjjhaohgbhekhaaAwake
import Derived.BigQuiet
namespace Go.Proofs.Ytjjhaohgbhekhaa
open Go.ChangeShapes Go.WideShapes Go.ChangeAt Go.RowKit
set_option maxRecDepth 4000
theorem to_drewN {b : Nat} {w w' : World} (h : Below b w w') (n : Nat) : Below b w (w'.drewN n) := ⟨h.os, h.tape, h.output, h.size, h.block⟩
theorem conv16 (A : Nat) (h : (A : Int) < 65536) (w : World) : (convert 34 3 (.int .u16 (A : Int))).run Try.prog w = .ok (.int .i64 (A : Int)) w := by
  have e : IntKind.i64.wrap (A : Int) = (A : Int) := wrap_i64 A (by omega)
  have : (convert 34 3 (.int .u16 (A : Int))).run Try.prog w = .ok (.int .i64 (IntKind.i64.wrap (A : Int))) w := by kernel_rfl
  rw [this, e]
theorem cutSizes_walk (a0 : Option Addr) (len0 cap0 : Nat) (z0 : List Int) (a1 : Int) (w : World) (w0 : IsRow .u8 w a0 len0 cap0 z0) (w1 : (Lit.int .u16 a1).wf = true) :
    Calls Try.prog 7 #[.slice a0 len0 cap0, .int .u16 a1] w fun e w' => e = .returned (.bool true) ∧ Below w.heap.size w w' := by
  obtain ⟨l, hl, hr, hcap, hcm⟩ := bytes_of w0
  clear w0
  by_cases h5 : 5000 < len0
  · have h5' : (5000 : Int) < (len0 : Int) := by omega
    clear hl hr
    go_enter Try.func7, Try.ntmps7
    go_wp2_with fail
    refine (awake_any w).mono ?_
    rintro e w2 ⟨rfl, hb2⟩
    go_wp2_with fail
    go_ret
    exact ⟨rfl, hb2⟩
  · have h5' : ¬ (5000 : Int) < (len0 : Int) := by omega
    go_enter Try.func7, Try.ntmps7
    go_wp2_with fail
    refine (awake_any w).mono ?_
    rintro e w2 ⟨rfl, hb2⟩
    go_wp2_with fail
    refine (cut_any a0 l len0 cap0 w2 hl hcap (by omega) (hr.below hb2)).mono ?_
    rintro e w3 ⟨v, rfl, hv, hb3⟩
    obtain ⟨a3, c3, rfl, hv3⟩ := hv.at_
    have hmany := cuts_many l
    have HB3 := hid (hb2.trans (hb3.mono hb2.size))
    have HR3 := hid ((hr.below hb2).below hb3)
    have HS := hid (cuts_ends l)
    have HST := hid (sum_take (cuts l))
    rw [hl] at hmany
    obtain ⟨N, hN⟩ : ∃ N, (cuts l).length = N := ⟨_, rfl⟩
    obtain ⟨Z1, hZ1⟩ : ∃ Z1 : Int, ((len0 : Int) + 64 - 1) / 64 = Z1 := ⟨_, rfl⟩
    obtain ⟨Z2, hZ2⟩ : ∃ Z2 : Int, ((len0 : Int) + 8 - 1) / 8 = Z2 := ⟨_, rfl⟩
    have hd1 : ((N : Int) < Z1) = False := by simp; omega
    have hd1' : Z1 ≤ (N : Int) := by omega
    have hd2 : (N : Int) ≤ Z2 := by omega
    have hNE : N ≠ 0 → cuts l ≠ [] := by rintro h e; rw [e] at hN; simp at hN; omega
    have hN5 : (N : Int) ≤ 5000 := by omega
    rw [hN] at hv3 HS HST ⊢
    have HN := hid hN
    have HL := hid hl
    have HC := hid hcap
    have h7 : (len0 : Int) ≤ 5000 := by omega
    clear hv hb2 hb3 hr hl hN hmany hcm hcap h5 h5' hd1
    by_cases h0 : N = 0
    · subst h0
      clear hv3
      have hd1' : Z1 ≤ 0 := hd1'
      have hd2 : 0 ≤ Z2 := hd2
      go_wp2_with fail
      go_ret
      exact ⟨rfl, HB3.out⟩
    · obtain ⟨g, rfl, hv4⟩ := hv3 (hNE h0)
      have HV := hid hv4
      have h0' : ((N : Int) == 0) = false := by simp; omega
      obtain ⟨A, hA⟩ : ∃ A : Nat, a1 = (A : Int) := ⟨a1.toNat, by have := bounds_u16 w1; omega⟩
      subst hA
      have hA6 : (A : Int) < 65536 := by have := bounds_u16 w1; omega
      obtain ⟨k, hk⟩ : ∃ k, A % N = k := ⟨_, rfl⟩
      have HKN := hid (show k < N by rw [← hk]; exact Nat.mod_lt _ (by omega))
      have hcv := fun w => conv16 A hA6 w
      have hmod : (A : Int) % (N : Int) = (k : Int) := by rw [← hk]; rfl
      have h0n : ¬ N = 0 := h0
      clear hv3 hv4 hNE hk hA6 w1
      have hd12 : Z1 ≤ (N : Int) ∧ (N : Int) ≤ Z2 := ⟨hd1', hd2⟩
      clear h0n
      have HM6 := hid (show k ≤ 5000 by have := HKN.out; omega)
      clear HM6
      go_wp2_with fail
      go_loopg [7, 8] k (fun gk v7 v8 wr => ∃ i : Nat, i + gk = k ∧ v8 = .int .i64 (i : Int) ∧ v7 = .int .i64 (sumL ((cuts l).take i) : Nat) ∧ wr = w3)
      case atStart => exact ⟨0, by omega, rfl, rfl, rfl⟩
      case round =>
        obtain ⟨i, hi, rfl, rfl, rfl⟩ := hrel
        have HI := hid hi
        by_cases hik : i < k
        · have hii : (i : Int) < (k : Int) := by omega
          have hiN : (i : Int) < (N : Int) := by have := HKN.out; omega
          have hst := HST.out i (by have := HKN.out; omega)
          obtain ⟨hsm, hse⟩ := HS.out i (by have := HKN.out; omega)
          have hse2 := ends_hi hsm
          obtain ⟨b, off, cp, hc, _⟩ := HV.out i (by have := HKN.out; omega)
          rw [Nat.zero_add] at hc
          generalize hG : ((cuts l).getD i []).length = G at *
          generalize sumL ((cuts l).take i) = F0 at *
          have hF0 : (F0 : Int) ≤ 5000 := by have := HL.out; omega
          have hG5 : (G : Int) ≤ 5000 := by have := HL.out; omega
          have HSTT := hid hst
          clear hi hst hG hsm hse hse2
          go_wp2_with fail
          go_roundg (gk - 1)
          case measure => have := HI.out; omega
          case rel => exact ⟨i + 1, by have := HI.out; omega, by go_num, by rw [HSTT.out]; go_num, rfl⟩
        · have hii : ¬ (i : Int) < (k : Int) := by omega
          obtain rfl : i = k := by omega
          have hiN : (i : Int) < (N : Int) := by have := HKN.out; omega
          obtain ⟨hs1, hs2⟩ := HS.out i HKN.out
          obtain ⟨b, off, cp, hc, _⟩ := HV.out i HKN.out
          rw [Nat.zero_add] at hc
          generalize hG : ((cuts l).getD i []).length = G at *
          generalize sumL ((cuts l).take i) = F0 at *
          have hF0 : (F0 : Int) ≤ 5000 := by have := HL.out; omega
          have hk := fun n => ends_any a0 l len0 cap0 F0 (wr.drewN n) HL.out HC.out (by omega) (HR3.out.below (to_drewN (Below.refl _ _) n)) (by have := HL.out; omega)
          rw [hs2] at hk
          have hwr : IntKind.i64.wrap ((F0 : Int) + (G : Int)) = (F0 : Int) + (G : Int) := by
            have h1 := ends_hi (l := l) (f := F0) (by omega)
            have h2 := wrap_i64 (F0 + G) (by have := HL.out; omega)
            rw [← Int.natCast_add]
            exact h2
          clear hi hG hs1 hs2
          go_wp2_with fail
          go_quiet (exact Calls.quiet_of_same (hk _))
          go_wp2_with fail
          go_ret
          exact ⟨rfl, to_drewN HB3.out _⟩
set_option linter.unusedVariables false
set_option maxRecDepth 100000 in
theorem cutSizes_lifted (os : Os) (started : os.Started) (H : Type) (enc : TypeId × Value → H) :
    ReturnsInHanded {} Try.checked os 7 .any (Rows.cutSizesSpec.pre6 enc Try.prog Try.f7 Rows.cutSizesRow.domain false) (Rows.cutSizesSpec.post enc Try.prog Try.f7 false true false false) := by
  refine returnsInHanded_of_change (C := Try.checked) own started (by kernel_rfl) Try.func7
    (ChangeSpec.witness6 (enc := enc) (C := Try.checked) false ⟨#[], #[.slice none 0 0, .int .u16 0], []⟩ 8 (by kernel_rfl) (by kernel_rfl) (by kernel_rfl) (by kernel_rfl)) ?_
  intro W base args ds gs before hval0 hW hcnd _
  have hval : ∀ (j : Nat) t v, Try.f7.params[j]? = some t → args[j]? = some v → Value.okWide Try.prog W .any base t v := hval0
  have hW' := hW
  obtain ⟨p, q, hA0, hV, rfl, hfz, hnd⟩ := hW
  have hA : DataW.TrodAll enc Try.prog W 0 (fun _ => true) true Try.f7.params.toList args.toList ds p := hA0
  rw [Try.params7] at hA hval
  obtain ⟨v0, vs0, d0, ds0, p0, q0, hargs, rfl, rfl, h0, r0⟩ := trodAll_cons hA
  obtain ⟨v1, vs1, d1, ds1, p1, q1, rfl, rfl, rfl, h1, r1⟩ := trodAll_cons r0
  obtain ⟨rfl, rfl, rfl⟩ := trodAll_nil r1
  obtain rfl : args = #[v0, v1] := by cases args; simp_all
  obtain ⟨rfl, rfl⟩ := trodVars_none hV
  obtain ⟨a0, len0, cap0, rfl⟩ := okWide_slice Try.underlying22 (hval 0 22 v0 rfl rfl)
  have k0 := h0
  have lt0 : ∀ x ∈ p0, x.block < W.heap.size := by obtain ⟨m, hm⟩ := k0; exact DataW.trod_lt m _ _ _ hm
  obtain ⟨z0, w0⟩ : ∃ zs, IsRow .u8 W a0 len0 cap0 zs := by
    obtain ⟨fuel, hf⟩ := h0
    rcases open_ints Try.underlying22 Try.underlying5 (by kernel_rfl) hf with ⟨hcs, _⟩ | ⟨x, l, c, zs, hcs, _, hl, hm, hz, _, hcell, hwz⟩
    · simp [Value.cells] at hcs
      obtain ⟨rfl, rfl, rfl⟩ := hcs
      exact ⟨[], .inl ⟨rfl, rfl, rfl, rfl⟩⟩
    · simp [Value.cells] at hcs
      obtain ⟨rfl, rfl, rfl⟩ := hcs
      exact ⟨zs, .inr ⟨_, rfl, hl, hm, by simpa using hz, hcell, hwz⟩⟩
  obtain ⟨a1, rfl, rfl, rfl, w1⟩ := open_int Try.underlying34 (hval 1 34 v1 rfl rfl) h1
  clear hA0 hval0
  refine (cutSizes_walk a0 len0 cap0 z0 a1 W w0 w1).mono fun e W' ⟨he, bel⟩ => ?_
  subst he
  exact ⟨_, rfl, _, _, _, [], _, [], hW', trodAll_mk1 (shut_bool Try.underlying4 _), (trodAll_cons_mk (Below.trod laidOut (by kernel_rfl) (of_decide_eq_true (by kernel_rfl)) k0 bel lt0) (trodAll_cons_mk (shut_int Try.underlying34 w1) trodAll_mk0)), rfl, bel.frame _, fun h => by cases h⟩

theorem cutSizes_over : Rows.cutSizesRow.holds Try.pinned (OpenSpec.ofChange Rows.cutSizesSpec) :=
  OpenClaim.holds_of_wide 7 Try.f7 rfl rfl rfl rfl rfl rfl rfl ⟨rfl, rfl, rfl, rfl, rfl⟩ rfl rfl rfl rfl rfl (by kernel_rfl) Try.func7 (by kernel_rfl)
    (of_decide_eq_true (by kernel_rfl)) (by unfold Func.isWrapper; first | (rw [if_pos (by decide +kernel)]; kernel_rfl) | (rw [if_neg (by decide +kernel)]; exact ⟨rfl, rfl⟩))
    (fun os started H enc _ => cutSizes_lifted os started H enc)

theorem cutSizes_holds : Rows.CutSizesSaid := cutSizes_over
#print axioms cutSizes_holds
end Go.Proofs.Ytjjhaohgbhekhaa
