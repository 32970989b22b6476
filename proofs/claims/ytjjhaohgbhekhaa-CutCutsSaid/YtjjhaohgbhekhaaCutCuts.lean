/- CutCuts: the pieces are those of the document's own Cut, together the data, none too short or too long. No condition. -/
import Derived.Test.YtjjhaohgbhekhaaAwake
import Derived.BigQuiet
namespace Go.Proofs.Ytjjhaohgbhekhaa
open Go.ChangeShapes Go.WideShapes Go.ChangeAt Go.RowKit
set_option maxRecDepth 4000
theorem to_drewN {b : Nat} {w w' : World} (h : Below b w w') (n : Nat) : Below b w (w'.drewN n) := ⟨h.os, h.tape, h.output, h.size, h.block⟩
theorem sum_take_le (ls : List (List Nat)) (k : Nat) : sumL (ls.take k) ≤ sumL ls := by
  have h : sumL ls = sumL (ls.take k) + sumL (ls.drop k) := by
    conv => lhs; rw [← List.take_append_drop k ls]
    unfold sumL
    rw [List.map_append, List.sum_append]
  omega
theorem hash_all (a : Option Addr) (l : List Nat) (n cap : Nat) (z : Int) (hn : l.length = n) (hcap : n ≤ cap) (hm : n ≤ 900000) :
    ∃ V, ∀ w, Row w a l → (Calls Try.prog 11 #[.slice a n cap, .int .i64 z] w fun e w' => e = .returned (.int .u32 V) ∧ w' = w) ∧
      (Calls Try.prog 12 #[.slice a n cap, .int .i64 z] w fun e w' => e = .returned (.int .u32 V) ∧ w' = w) := by
  by_cases h : z < 0 ∨ (n : Int) ≤ z
  · exact ⟨0, fun w _ => ⟨hash_out a n cap z w h, rhash_out a n cap z w h⟩⟩
  · obtain ⟨i, rfl⟩ : ∃ i : Nat, z = (i : Int) := ⟨z.toNat, by omega⟩
    exact ⟨_, fun w hr => ⟨hash_any a l n cap i w hn hcap (by omega) hr (by omega), rhash_any a l n cap i w hn (by omega) hr (by omega)⟩⟩
theorem ends_all (a : Option Addr) (l : List Nat) (n cap : Nat) (z : Int) (hn : l.length = n) (hcap : n ≤ cap) (hm : n ≤ 900000) :
    ∃ V, ∀ w, Row w a l → (Calls Try.prog 13 #[.slice a n cap, .int .i64 z] w fun e w' => e = .returned (.int .i64 V) ∧ w' = w) ∧
      (Calls Try.prog 14 #[.slice a n cap, .int .i64 z] w fun e w' => e = .returned (.int .i64 V) ∧ ∃ k, w' = w.drewN k) := by
  by_cases h : z < 0 ∨ (n : Int) ≤ z
  · exact ⟨n, fun w _ => ⟨ends_out a n cap z w h, (rends_out a n cap z w h).mono fun e w' ⟨h1, h2⟩ => ⟨h1, 0, h2⟩⟩⟩
  · obtain ⟨i, rfl⟩ : ∃ i : Nat, z = (i : Int) := ⟨z.toNat, by omega⟩
    exact ⟨_, fun w hr => ⟨ends_any a l n cap i w hn hcap (by omega) hr (by omega), rends_any a l n cap i w hn (by omega) hr (by omega)⟩⟩
set_option maxHeartbeats 2000000 in
theorem cutCuts_walk (a0 : Option Addr) (len0 cap0 : Nat) (z0 : List Int) (a1 : Int) (w : World) (w0 : IsRow .u8 w a0 len0 cap0 z0) (_ : (Lit.int .i64 a1).wf = true) :
    Calls Try.prog 3 #[.slice a0 len0 cap0, .int .i64 a1] w fun e w' => e = .returned (.bool true) ∧ Below w.heap.size w w' := by
  obtain ⟨l, hl, hr, hcap, hcm⟩ := bytes_of w0
  clear w0
  by_cases h5 : 5000 < len0
  · have h5' : (5000 : Int) < (len0 : Int) := by omega
    clear hl hr
    go_enter Try.func3, Try.ntmps3
    go_wp2_with fail
    refine (awake_any w).mono ?_
    rintro e w2 ⟨rfl, hb2⟩
    go_wp2_with fail
    go_ret
    exact ⟨rfl, hb2⟩
  · have h5' : ¬ (5000 : Int) < (len0 : Int) := by omega
    go_enter Try.func3, Try.ntmps3
    go_wp2_with fail
    refine (awake_any w).mono ?_
    rintro e w2 ⟨rfl, hb2⟩
    go_wp2_with fail
    refine (cut_any a0 l len0 cap0 w2 hl hcap (by omega) (hr.below hb2)).mono ?_
    rintro e w3 ⟨v, rfl, hv, hb3⟩
    have HR3 := hid ((hr.below hb2).below hb3)
    have HV := hid hv
    obtain ⟨a3, c3, rfl, _⟩ := hv.at_
    have HB3 := hid (hb2.trans (hb3.mono hb2.size))
    have HMANY := hid (cuts_many l)
    have HSUM := hid (cuts_sum l)
    have HSIZE := hid (cuts_size l)
    have HST := hid (sum_take (cuts l))
    obtain ⟨LL, hLL⟩ : ∃ LL, cuts l = LL := ⟨_, rfl⟩
    have HCR := hid (fun w h => rcut_any a0 l len0 cap0 w hl hcap (by omega) h)
    rw [hLL] at HV HMANY HSUM HSIZE HST HCR
    rw [hLL]
    obtain ⟨N, hN⟩ : ∃ N, LL.length = N := ⟨_, rfl⟩
    obtain ⟨V1, hV1⟩ := hash_all a0 l len0 cap0 a1 hl hcap (by omega)
    obtain ⟨V2, hV2⟩ := ends_all a0 l len0 cap0 a1 hl hcap (by omega)
    have HV1 := hid hV1
    have HV2 := hid hV2
    have HL := hid hl
    have h7 : (len0 : Int) ≤ 5000 := by omega
    have HN := hid hN
    have hN5 : (N : Int) ≤ 5000 := by have := HMANY.out; omega
    rw [hN]
    rw [hN] at HST HSIZE HMANY
    clear hv hb2 hb3 hr hl hcm hcap h5 h5' hLL hV1 hV2
    go_wp2_with fail
    refine (HCR.out w3 HR3.out).mono ?_
    rintro e w4 ⟨u, rfl, hu, hb4⟩
    have HV4 := hid (HV.out.below hb4)
    have HB4 := hid (HB3.out.trans (hb4.mono HB3.out.size))
    have HR4 := hid (HR3.out.below hb4)
    obtain ⟨a4, c4, rfl, _⟩ := hu.at_
    have HU := hid hu
    rw [hN]
    clear hu hb4 HV HB3 HR3 hN
    go_wp2_with fail
    refine (HV1.out w4 HR4.out).1.mono ?_
    rintro e w5 ⟨rfl, rfl⟩
    go_wp2_with fail
    refine (HV1.out w5 HR4.out).2.mono ?_
    rintro e w4 ⟨rfl, rfl⟩
    go_wp2_with fail
    refine (HV2.out w4 HR4.out).1.mono ?_
    rintro e w5 ⟨rfl, rfl⟩
    go_wp2_with fail
    refine (HV2.out w5 HR4.out).2.mono ?_
    rintro e w4 ⟨rfl, kd, hw4⟩
    have hb5 : Below w5.heap.size w5 w4 := by rw [hw4]; exact to_drewN (Below.refl _ _) _
    have HB5 := hid (HB4.out.trans (hb5.mono HB4.out.size))
    have HV5 := hid (HV4.out.below hb5).at_
    have HU5 := hid (HU.out.below hb5).at_
    clear hw4 hb5 HB4 HR4 HV1 HV2 HV4 HU HCR
    go_wp2_with fail
    go_loopg [7, 8] N (fun gk v7 v8 wr => ∃ i : Nat, i + gk = N ∧ v8 = .int .i64 (i : Int) ∧ v7 = .int .i64 (sumL (LL.take i) : Nat) ∧ ∃ nd, wr = w4.drewN nd)
    case atStart => exact ⟨0, by omega, rfl, rfl, 0, rfl⟩
    case round =>
      obtain ⟨i, hi, rfl, rfl, nd, hnd⟩ := hrel
      have hbr : Below w4.heap.size w4 wr := by rw [hnd]; exact to_drewN (Below.refl _ _) _
      have HND := hid hnd
      clear hnd
      have HI := hid hi
      by_cases hik : i < N
      · have hii : (i : Int) < (N : Int) := by omega
        obtain ⟨a, c, e3, hx⟩ := HV5.out
        obtain ⟨g, e3', hx2⟩ := hx (by intro e; rw [e] at HN; have := HN.out; simp at this; omega)
        obtain ⟨a', c', e4, hy⟩ := HU5.out
        obtain ⟨g', e4', hy2⟩ := hy (by intro e; rw [e] at HN; have := HN.out; simp at this; omega)
        simp only [Value.slice.injEq] at e3 e4
        obtain ⟨rfl, -, -⟩ := e3
        obtain ⟨rfl, -, -⟩ := e4
        subst e3' e4'
        obtain ⟨b, off, cp, hc, hrow⟩ := hx2 i (by rw [HN.out]; exact hik)
        obtain ⟨b', off', cp', hc', hrow'⟩ := hy2 i (by rw [HN.out]; exact hik)
        rw [Nat.zero_add] at hc hc'
        have hst := HST.out i hik
        obtain ⟨hs1, hs2, hs3⟩ := HSIZE.out i hik
        have hstr := fun n => str_any (wr.drewN n) _ (LL.getD i []) _ cp rfl (hrow.below (to_drewN hbr n))
        have hstr' := fun n => str_any (wr.drewN n) _ (LL.getD i []) _ cp' rfl (hrow'.below (to_drewN hbr n))
        obtain ⟨S, hS⟩ : ∃ S, strOf (LL.getD i []) = S := ⟨_, rfl⟩
        rw [hS] at hstr hstr'
        have hse : (S.toList != S.toList) = false := by simp
        clear hS hrow hrow' hx hy hx2 hy2
        obtain ⟨G, hG⟩ : ∃ G, (LL.getD i []).length = G := ⟨_, rfl⟩
        rw [hG] at hc hc' hst hs1 hs2 hs3 hstr hstr'
        replace hc := (hbr.cell (block_lt_of_cell hc)).trans hc
        replace hc' := (hbr.cell (block_lt_of_cell hc')).trans hc'
        have hw1 : IntKind.i64.wrap ((N : Int) - 1) = (N : Int) - 1 := by
          have := wrap_i64 (N - 1) (by omega)
          rwa [show ((N - 1 : Nat) : Int) = (N : Int) - 1 by omega] at this
        have hsl : (sumL (LL.take i) : Int) + (G : Int) ≤ 5000 := by
          have h1 := HSUM.out
          have h2 : sumL (LL.take (i + 1)) ≤ sumL LL := sum_take_le LL (i + 1)
          have := HL.out
          omega
        have HST2 := hid hst
        generalize sumL (LL.take i) = F0 at *
        have hF5 : (F0 : Int) ≤ 5000 := by omega
        have hG5 : (G : Int) ≤ 5000 := by omega
        have hq1 : decide (64 < (G : Int)) = false := by simp; omega
        have hq2 : ((G : Int) == 0) = false := by simp; omega
        by_cases hlast : i + 1 < N
        · have hq3 : decide ((i : Int) < (N : Int) - 1) = true := by simp; omega
          have hq4 : decide ((G : Int) < 8) = false := by have := hs3 hlast; simp; omega
          clear hst hs1 hs2 hs3 hG hi hsl hlast hbr
          go_wp2_with fail
          go_quiet (fail)
          go_wp2_with fail
          go_roundg (gk - 1)
          case measure => have := HI.out; omega
          case rel => exact ⟨i + 1, by have := HI.out; omega, by go_num, by rw [HST2.out]; go_num, nd + nq, by rw [HND.out, World.drewN_drewN]⟩
        · have hq3 : decide ((i : Int) < (N : Int) - 1) = false := by simp; omega
          clear hst hs1 hs2 hs3 hG hi hsl hlast hbr
          go_wp2_with fail
          go_quiet (fail)
          go_wp2_with fail
          go_roundg (gk - 1)
          case measure => have := HI.out; omega
          case rel => exact ⟨i + 1, by have := HI.out; omega, by go_num, by rw [HST2.out]; go_num, nd + nq, by rw [HND.out, World.drewN_drewN]⟩
      · have hii : ¬ (i : Int) < (N : Int) := by omega
        have hsum : sumL (LL.take i) = len0 := by
          rw [List.take_of_length_le (by rw [HN.out]; omega), HSUM.out]; exact HL.out
        rw [hsum]
        clear hbr hi
        go_wp2_with fail
        go_ret
        exact ⟨rfl, by rw [HND.out]; exact to_drewN HB5.out _⟩
set_option linter.unusedVariables false
set_option maxRecDepth 100000 in
theorem cutCuts_lifted (os : Os) (started : os.Started) (H : Type) (enc : TypeId × Value → H) :
    ReturnsInHanded {} Try.checked os 3 .any (Rows.cutCutsSpec.pre6 enc Try.prog Try.f3 Rows.cutCutsRow.domain false) (Rows.cutCutsSpec.post enc Try.prog Try.f3 false true false false) := by
  refine returnsInHanded_of_change (C := Try.checked) own started (by kernel_rfl) Try.func3
    (ChangeSpec.witness6 (enc := enc) (C := Try.checked) false ⟨#[], #[.slice none 0 0, .int .i64 0], []⟩ 8 (by kernel_rfl) (by kernel_rfl) (by kernel_rfl) (by kernel_rfl)) ?_
  intro W base args ds gs before hval0 hW hcnd _
  have hval : ∀ (j : Nat) t v, Try.f3.params[j]? = some t → args[j]? = some v → Value.okWide Try.prog W .any base t v := hval0
  have hW' := hW
  obtain ⟨p, q, hA0, hV, rfl, hfz, hnd⟩ := hW
  have hA : DataW.TrodAll enc Try.prog W 0 (fun _ => true) true Try.f3.params.toList args.toList ds p := hA0
  rw [Try.params3] at hA hval
  obtain ⟨v0, vs0, d0, ds0, p0, q0, hargs, rfl, rfl, h0, r0⟩ := trodAll_cons hA
  obtain ⟨v1, vs1, d1, ds1, p1, q1, rfl, rfl, rfl, h1, r1⟩ := trodAll_cons r0
  obtain ⟨rfl, rfl, rfl⟩ := trodAll_nil r1
  obtain rfl : args = #[v0, v1] := by cases args; simp_all
  obtain ⟨rfl, rfl⟩ := trodVars_none hV
  obtain ⟨a0, len0, cap0, rfl⟩ := okWide_slice Try.underlying22 (hval 0 22 v0 rfl rfl)
  have k0 := h0
  have lt0 : ∀ x ∈ p0, x.block < W.heap.size := by obtain ⟨m, hm⟩ := k0; exact DataW.trod_lt m _ _ _ hm
  obtain ⟨z0, w0⟩ : ∃ zs, IsRow .u8 W a0 len0 cap0 zs := by
    obtain ⟨fuel, hf⟩ := h0
    rcases open_ints Try.underlying22 Try.underlying5 (by kernel_rfl) hf with ⟨hcs, _⟩ | ⟨x, l, c, zs, hcs, _, hl, hm, hz, _, hcell, hwz⟩
    · simp [Value.cells] at hcs
      obtain ⟨rfl, rfl, rfl⟩ := hcs
      exact ⟨[], .inl ⟨rfl, rfl, rfl, rfl⟩⟩
    · simp [Value.cells] at hcs
      obtain ⟨rfl, rfl, rfl⟩ := hcs
      exact ⟨zs, .inr ⟨_, rfl, hl, hm, by simpa using hz, hcell, hwz⟩⟩
  obtain ⟨a1, rfl, rfl, rfl, w1⟩ := open_int Try.underlying3 (hval 1 3 v1 rfl rfl) h1
  clear hA0 hval0
  refine (cutCuts_walk a0 len0 cap0 z0 a1 W w0 w1).mono fun e W' ⟨he, bel⟩ => ?_
  subst he
  exact ⟨_, rfl, _, _, _, [], _, [], hW', trodAll_mk1 (shut_bool Try.underlying4 _), (trodAll_cons_mk (Below.trod laidOut (by kernel_rfl) (of_decide_eq_true (by kernel_rfl)) k0 bel lt0) (trodAll_cons_mk (shut_int Try.underlying3 w1) trodAll_mk0)), rfl, bel.frame _, fun h => by cases h⟩

theorem cutCuts_over : Rows.cutCutsRow.holds Try.pinned (OpenSpec.ofChange Rows.cutCutsSpec) :=
  OpenClaim.holds_of_wide 3 Try.f3 rfl rfl rfl rfl rfl rfl rfl ⟨rfl, rfl, rfl, rfl, rfl⟩ rfl rfl rfl rfl rfl (by kernel_rfl) Try.func3 (by kernel_rfl)
    (of_decide_eq_true (by kernel_rfl)) (by unfold Func.isWrapper; first | (rw [if_pos (by decide +kernel)]; kernel_rfl) | (rw [if_neg (by decide +kernel)]; exact ⟨rfl, rfl⟩))
    (fun os started H enc _ => cutCuts_lifted os started H enc)

theorem cutCuts_holds : Rows.CutCutsSaid := cutCuts_over
#print axioms cutCuts_holds
end Go.Proofs.Ytjjhaohgbhekhaa
