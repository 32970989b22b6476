/- CutKnown: pieces by hand: the hash, the least, the most. No condition. -/
import Derived.Test.YtjjhaohgbhekhaaAwake
import Derived.BigQuiet
namespace Go.Proofs.Ytjjhaohgbhekhaa
open Go.ChangeShapes Go.WideShapes Go.ChangeAt Go.RowKit
set_option maxRecDepth 4000
theorem to_drewN {b : Nat} {w w' : World} (h : Below b w w') (n : Nat) : Below b w (w'.drewN n) := ⟨h.os, h.tape, h.output, h.size, h.block⟩
def z200 : List Nat := List.replicate 200 0
theorem made_row8 (n : Nat) : madeCells #[.int .u8 0] n = row8 (List.replicate n 0) := by
  apply Array.ext
  · simp [row8, vals, size_madeCells]
  · intro i h1 h2
    simp [madeCells, row8, vals, Nat.mod_one]
theorem make200 (w : World) : ∃ w', (Instr.makeSlice 22 (.int .i64 200) (.int .i64 200)).run Try.prog w = .ok (.slice (some ⟨w.heap.size, 0, none⟩) 200 200) w' ∧ Below w.heap.size w w' ∧ Row w' (some ⟨w.heap.size, 0, none⟩) z200 := by
  obtain ⟨i5, hi5, hz5, hs5, hy5⟩ := info5'
  obtain ⟨w', h1, h2, h3⟩ := run_makeSlice_full (P := Try.prog) w w.heap.size 22 5 i5 (.int .u8 0) 1 Try.underlying22 hi5 hz5 hs5 .i64 .i64 200 (by decide) (by rw [hy5]; decide) (by decide) (Nat.le_refl _)
  refine ⟨w', h1, (Below.refl _ w).grown h3 (Nat.le_refl _) (fun k hk => by simp at hk), ?_⟩
  have e : (madeCells (Value.int IntKind.u8 0).cells (200 * 1)).toList = vals z200 := by
    rw [show (Value.int IntKind.u8 0).cells = #[.int .u8 0] from rfl, made_row8]
    rfl
  rw [e] at h2
  exact (row_of_owns' (l := z200) (by decide) h2 (by decide +kernel)).2
theorem cuts200 : (cuts z200).map List.length = [64, 64, 64, 8] := by decide +kernel
theorem lens_at (L : List (List Nat)) (h : L.map List.length = [64, 64, 64, 8]) : L.length = 4 ∧ ∀ k, k < 4 → (L.getD k []).length = if k < 3 then 64 else 8 := by
  have hl : L.length = 4 := by have := congrArg List.length h; simpa using this
  refine ⟨hl, fun k hk => ?_⟩
  have e : (L.map List.length)[k]? = ([64, 64, 64, 8] : List Nat)[k]? := by rw [h]
  rw [List.getElem?_map, List.getElem?_eq_getElem (by omega), Option.map_some] at e
  rw [List.getD_eq_getElem?_getD, List.getElem?_eq_getElem (by omega), Option.getD_some]
  match k, hk with
  | 0, _ | 1, _ | 2, _ | 3, _ => simpa using e
theorem known_hash : hash z200 7 = 2659897472 ∧ hash z200 199 = 2659897472 ∧ hash z200 0 = 1 ∧ ends z200 195 = 200 ∧ z200.length = 200 := by decide +kernel
set_option maxHeartbeats 4000000 in
theorem cutKnown_walk (w : World) : Calls Try.prog 6 #[] w fun e w' => e = .returned (.bool true) ∧ Below w.heap.size w w' := by
  go_enter Try.func6, Try.ntmps6
  go_wp2_with fail
  refine (awake_any w).mono ?_
  rintro e w1 ⟨rfl, hb1⟩
  obtain ⟨w2, hmk, hb2, hr2⟩ := make200 w1
  go_wp2_with fail
  refine (cut_any _ z200 200 200 w2 (by decide +kernel) (by decide) (by decide) hr2).mono ?_
  rintro e w3 ⟨v, rfl, hv, hb3⟩
  obtain ⟨a3, c3, rfl, hv3⟩ := hv.at_
  have hlen : (cuts z200).length = 4 := (lens_at _ cuts200).1
  have hne : cuts z200 ≠ [] := by intro e; rw [e] at hlen; simp at hlen
  obtain ⟨g, rfl, hv4⟩ := hv3 hne
  have HL := hid (lens_at _ cuts200)
  generalize cuts z200 = CU at *
  have HV := hid hv4
  have HB3 := hid (hb1.trans ((hb2.trans (hb3.mono hb2.size)).mono hb1.size))
  have HR3 := hid (hr2.below hb3)
  rw [hlen]
  have HLEN := hid hlen
  clear hlen
  clear hne hv hv3 hv4 hb1 hb2 hb3 hr2 hmk
  go_wp2_with fail
  go_loopg [3, 4] 4 (fun gk v3 v4 wr => ∃ k : Nat, k + gk = 4 ∧ v4 = .int .i64 (k : Int) ∧ v3 = .int .i64 (if k < 4 then ((64 * k : Nat) : Int) else 200) ∧ Below w3.heap.size w3 wr)
  case atStart => exact ⟨0, rfl, rfl, rfl, Below.refl _ _⟩
  case round =>
    obtain ⟨k, hk, rfl, rfl, hb⟩ := hrel
    have HBR := hid hb
    have HKK := hid hk
    have hw3 : IntKind.i64.wrap 3 = 3 := by decide
    by_cases hk4 : k < 4
    · have hi : (k : Int) < 4 := by omega
      obtain ⟨b, off, cp, hc, _⟩ := HV.out k (by rw [HLEN.out]; exact hk4)
      obtain ⟨b', off', cp', hc', _⟩ := HV.out 0 (by rw [HLEN.out]; decide)
      have e1 := HL.out.2 k hk4
      have e0 := HL.out.2 0 (by decide)
      rw [e1] at hc
      rw [e0] at hc'
      have hcell := (hb.cell (block_lt_of_cell hc)).trans hc
      have hcell' := (hb.cell (block_lt_of_cell hc')).trans hc'
      rw [Nat.zero_add] at hcell
      simp only [Nat.zero_add, if_pos (show (0 : Nat) < 3 by decide)] at hcell'
      clear hc hc' e1 e0 hb hk
      rw [if_pos hk4]
      by_cases hk3 : k < 3
      · rw [if_pos hk3] at hcell
        have h3 : (k : Int) < 3 := by omega
        go_wp2_with fail
        go_quiet (fail)
        go_wp2_with fail
        go_roundg (gk - 1)
        case measure => have := HKK.out; omega
        case rel =>
          refine ⟨k + 1, by have := HKK.out; omega, by go_num, ?_, ?_⟩
          · rw [if_pos (by omega)]
            apply congrArg (Value.int .i64)
            omega
          · exact to_drewN HBR.out _
      · rw [if_neg hk3] at hcell
        obtain rfl : k = 3 := by omega
        clear hi hk3 hk4
        rw [show ((64 * 3 : Nat) : Int) = 192 from rfl, show ((3 : Nat) : Int) = 3 from rfl]
        go_wp2_with fail
        go_quiet (fail)
        go_wp2_with fail
        go_roundg (gk - 1)
        case measure => have := HKK.out; omega
        case rel =>
          refine ⟨4, by have := HKK.out; omega, rfl, ?_, ?_⟩
          · rfl
          · exact to_drewN HBR.out _
    · have hi : ¬ (k : Int) < 4 := by omega
      rw [if_neg hk4]
      have HBR2 := hid (HB3.out.trans (hb.mono HB3.out.size))
      have HRR := hid (HR3.out.below hb)
      clear hb hk hw3
      go_wp2_with fail
      go_loopg [5, 6, 7] 8 (fun gk v5 v6 v7 w' => ∃ k : Nat, k + gk = 8 ∧ v7 = .int .i64 (k : Int) ∧ v5 = .int .u32 (hs (List.replicate k 0) : Nat) ∧ v6 = .int .u32 ((31 ^ k % 4294967296 : Nat) : Int) ∧ w' = wr)
      case atStart => exact ⟨0, rfl, rfl, rfl, rfl, rfl⟩
      case round =>
        obtain ⟨j, hj, rfl, rfl, rfl, rfl⟩ := hrel
        have HJ := hid hj
        clear hj
        by_cases hj8 : j < 8
        · have hji : (j : Int) < 8 := by omega
          have hlt := hs_lt (List.replicate j 0)
          have hst := hs_cons 0 (List.replicate j 0)
          rw [List.length_replicate, ← List.replicate_succ] at hst
          have hP : 31 ^ j % 4294967296 < 4294967296 := Nat.mod_lt _ (by decide)
          have hP2 : 31 ^ (j + 1) % 4294967296 = (31 ^ j % 4294967296) * 31 % 4294967296 := by rw [Nat.pow_succ]; omega
          generalize hs (List.replicate j 0) = K0 at *
          generalize 31 ^ j % 4294967296 = P at *
          have HST := hid (And.intro hst hP2)
          clear hst hP2
          go_wp2_with fail
          go_roundg (gk - 1)
          case measure => have := HJ.out; omega
          case rel =>
            refine ⟨j + 1, by have := HJ.out; omega, by go_num, ?_, ?_, rfl⟩
            · rw [HST.out.1]
              apply congrArg (Value.int .u32)
              omega
            · rw [HST.out.2]
              apply congrArg (Value.int .u32)
              omega
        · have hji : ¬ (j : Int) < 8 := by omega
          obtain rfl : j = 8 := by have := HJ.out; omega
          rw [show hs (List.replicate 8 0) = 2659897472 by decide +kernel]
          obtain ⟨b', off', cp', hc', _⟩ := HV.out 0 (by rw [HLEN.out]; decide)
          rw [HL.out.2 0 (by decide)] at hc'
          have hcell' := (HBR.out.cell (block_lt_of_cell hc')).trans hc'
          simp only [Nat.zero_add, if_pos (show (0 : Nat) < 3 by decide)] at hcell'
          have HC0 := hid hcell'
          clear hc' hcell' HBR HV
          go_wp2_with fail
          refine (cut_any none [] 0 0 _ rfl (by decide) (by decide) (row_nil _ _)).mono ?_
          rintro e w4 ⟨v, rfl, hv, hb4⟩
          obtain ⟨a4, c4, rfl, _⟩ := hv.at_
          rw [show (cuts []).length = 0 from rfl]
          have HR4 := hid (HRR.out.below hb4)
          have HB4 := hid (HBR2.out.trans (hb4.mono HBR2.out.size))
          have HC4 := hid ((hb4.cell (block_lt_of_cell HC0.out)).trans HC0.out)
          obtain ⟨k7, k199, k0, k195, kl⟩ := known_hash
          have A7 := hid (hash_any _ z200 200 200 7 w4 kl (by decide) (by decide) HR4.out (by decide))
          have A199 := hid (hash_any _ z200 200 200 199 w4 kl (by decide) (by decide) HR4.out (by decide))
          have A0 := hid (hash_any _ z200 200 200 0 w4 kl (by decide) (by decide) HR4.out (by decide))
          have A195 := hid (ends_any _ z200 200 200 195 w4 kl (by decide) (by decide) HR4.out (by decide))
          rw [k7] at A7
          rw [k199] at A199
          rw [k0] at A0
          rw [k195] at A195
          clear hv hb4 k7 k199 k0 k195 kl
          go_wp2_with fail
          refine A7.out.mono ?_
          rintro e w5 ⟨rfl, rfl⟩
          go_wp2_with fail
          refine A199.out.mono ?_
          rintro e w5 ⟨rfl, rfl⟩
          go_wp2_with fail
          refine A0.out.mono ?_
          rintro e w5 ⟨rfl, rfl⟩
          go_wp2_with fail
          refine (hash_out _ 200 200 (-1) _ (.inl (by decide))).mono ?_
          rintro e w5 ⟨rfl, rfl⟩
          go_wp2_with fail
          refine (hash_out _ 200 200 200 _ (.inr (by decide))).mono ?_
          rintro e w5 ⟨rfl, rfl⟩
          go_wp2_with fail
          refine A195.out.mono ?_
          rintro e w5 ⟨rfl, rfl⟩
          go_wp2_with fail
          refine (ends_out _ 200 200 200 _ (.inr (by decide))).mono ?_
          rintro e w5 ⟨rfl, rfl⟩
          go_wp2_with fail
          refine (ends_out _ 200 200 (-1) _ (.inl (by decide))).mono ?_
          rintro e w5 ⟨rfl, rfl⟩
          go_wp2_with fail
          refine (ends_out _ 0 0 0 _ (.inr (by decide))).mono ?_
          rintro e w5 ⟨rfl, rfl⟩
          have hcl := HC4.out
          go_wp2_with fail
          go_ret
          exact ⟨rfl, HB4.out⟩
set_option linter.unusedVariables false
set_option maxRecDepth 100000 in
theorem cutKnown_lifted (os : Os) (started : os.Started) (H : Type) (enc : TypeId × Value → H) :
    ReturnsInHanded {} Try.checked os 6 .any (Rows.cutKnownSpec.pre6 enc Try.prog Try.f6 Rows.cutKnownRow.domain false) (Rows.cutKnownSpec.post enc Try.prog Try.f6 false true false false) := by
  refine returnsInHanded_of_change (C := Try.checked) own started (by kernel_rfl) Try.func6
    (ChangeSpec.witness6 (enc := enc) (C := Try.checked) false ⟨#[], #[], []⟩ 8 (by kernel_rfl) (by kernel_rfl) (by kernel_rfl) (by kernel_rfl)) ?_
  intro W base args ds gs before hval0 hW hcnd _
  have hval : ∀ (j : Nat) t v, Try.f6.params[j]? = some t → args[j]? = some v → Value.okWide Try.prog W .any base t v := hval0
  have hW' := hW
  obtain ⟨p, q, hA0, hV, rfl, hfz, hnd⟩ := hW
  have hA : DataW.TrodAll enc Try.prog W 0 (fun _ => true) true Try.f6.params.toList args.toList ds p := hA0
  rw [Try.params6] at hA hval
  obtain ⟨rfl, rfl, rfl⟩ := trodAll_none hA
  obtain ⟨rfl, rfl⟩ := trodVars_none hV
  clear hA0 hval0
  refine (cutKnown_walk W).mono fun e W' ⟨he, bel⟩ => ?_
  subst he
  exact ⟨_, rfl, _, _, _, [], _, [], hW', trodAll_mk1 (shut_bool Try.underlying4 _), trodAll_mk0, rfl, bel.frame _, fun h => by cases h⟩

theorem cutKnown_over : Rows.cutKnownRow.holds Try.pinned (OpenSpec.ofChange Rows.cutKnownSpec) :=
  OpenClaim.holds_of_wide 6 Try.f6 rfl rfl rfl rfl rfl rfl rfl ⟨rfl, rfl, rfl, rfl, rfl⟩ rfl rfl rfl rfl rfl (by kernel_rfl) Try.func6 (by kernel_rfl)
    (of_decide_eq_true (by kernel_rfl)) (by unfold Func.isWrapper; first | (rw [if_pos (by decide +kernel)]; kernel_rfl) | (rw [if_neg (by decide +kernel)]; exact ⟨rfl, rfl⟩))
    (fun os started H enc _ => cutKnown_lifted os started H enc)

theorem cutKnown_holds : Rows.CutKnownSaid := cutKnown_over
#print axioms cutKnown_holds
end Go.Proofs.Ytjjhaohgbhekhaa
