/- CutAgain: behind an end that both have all ends are alike, and there is one. No condition. -/
import Derived.Test.YtjjhaohgbhekhaaJoin
namespace Go.Proofs.Ytjjhaohgbhekhaa
open Go.ChangeShapes Go.WideShapes Go.ChangeAt Go.RowKit
set_option maxRecDepth 4000
set_option linter.unusedVariables false
/-- Both lists hold at these places one number of 8 or more. -/
def Meets (p q : List Int) (i j : Nat) : Prop := p.getD i 0 = q.getD j 0 ∧ 8 ≤ p.getD i 0
theorem drop_at (p q : List Int) (i j : Nat) (h : p.drop i = q.drop j) : p.length - i = q.length - j ∧ ∀ k, p.getD (i + k) 0 = q.getD (j + k) 0 := by
  refine ⟨by have := congrArg List.length h; simpa using this, fun k => ?_⟩
  have := congrArg (fun l : List Int => l.getD k 0) h
  simpa [List.getD_eq_getElem?_getD, List.getElem?_drop] using this
theorem irow_at {w : World} {base : Nat} {v : Value} {l : List Int} (h : w.ownsRow base 3 1 v l.length (ivals l)) (hne : 1 ≤ l.length) :
    ∃ b off cap, v = .slice (some ⟨b, off, none⟩) l.length cap ∧ ∀ i, i < l.length → w.cell? ⟨b, off + i, none⟩ = some (.int .i64 (l.getD i 0)) := by
  obtain ⟨a, cap, e, h2, _⟩ := irow_of_owns h
  obtain ⟨b, off, rfl, _, h3⟩ := h2.cell (by intro e; rw [e] at hne; simp at hne)
  exact ⟨b, off, cap, e, h3⟩
theorem endF_len (l : List Nat) (k f : Nat) : (endF l k f).length ≤ k := by
  induction k generalizing f with
  | zero => exact Nat.le_refl _
  | succ k ih =>
    by_cases h : f < l.length
    · rw [endF_step l k f h, List.length_cons]
      have := ih (ends l f)
      omega
    · rw [endF_end l _ f h]
      exact Nat.zero_le _
theorem endZ_most (l : List Nat) (n : Nat) : (endZ l n).length ≤ l.length := by rw [endZ_len]; exact endF_len l _ 0
set_option maxHeartbeats 2000000 in
theorem cutAgain_walk (a0 : Option Addr) (len0 cap0 : Nat) (z0 : List Int) (a1 : Option Addr) (len1 cap1 : Nat) (z1 : List Int) (a2 : Option Addr) (len2 cap2 : Nat) (z2 : List Int) (w : World) (w0 : IsRow .u8 w a0 len0 cap0 z0) (w1 : IsRow .u8 w a1 len1 cap1 z1) (w2 : IsRow .u8 w a2 len2 cap2 z2) :
    Calls Try.prog 4 #[.slice a0 len0 cap0, .slice a1 len1 cap1, .slice a2 len2 cap2] w fun e w' => e = .returned (.bool true) ∧ Below w.heap.size w w' := by
  obtain ⟨l0, hl0, hr0, hcap0, hcm0⟩ := bytes_of w0
  obtain ⟨l1, hl1, hr1, hcap1, hcm1⟩ := bytes_of w1
  obtain ⟨l2, hl2, hr2, hcap2, hcm2⟩ := bytes_of w2
  clear w0 w1 w2 hcm0 hcm1 hcm2
  by_cases hg : len0 ≤ 1000 ∧ len1 ≤ 1000 ∧ 8 ≤ len2 ∧ len2 ≤ 2000
  · obtain ⟨hg0, hg1, hg2, hg3⟩ := hg
    have i0 : (len0 : Int) ≤ 1000 := by omega
    have i1 : (len1 : Int) ≤ 1000 := by omega
    have i2 : 8 ≤ (len2 : Int) := by omega
    have i3 : (len2 : Int) ≤ 2000 := by omega
    have HR0 := hid hr0
    have HR1 := hid hr1
    have HR2 := hid hr2
    have H0 := hid hl0
    have H1 := hid hl1
    have H2 := hid hl2
    clear hl0 hl1 hl2 hr0 hr1 hr2 hg0 hg1 hg2 hg3
    go_enter Try.func4, Try.ntmps4
    go_wp2_with fail
    refine (awake_any w).mono ?_
    rintro e w2 ⟨rfl, hb2⟩
    have HB2 := hid hb2
    obtain ⟨k0, hk0⟩ : ∃ k0, len0 + len2 = k0 := ⟨_, rfl⟩
    obtain ⟨k1, hk1⟩ : ∃ k1, len1 + len2 = k1 := ⟨_, rfl⟩
    obtain ⟨g1, c1, w3, g2, c2, w4, hrA, hrB, ⟨hcx, hx⟩, hbx⟩ := joined w2 a0 a2 l0 l2 len0 len2 k0 cap0 cap2 H0.out H2.out hk0 (by omega) (HR0.out.below hb2) (HR2.out.below hb2)
    have hb4 := hb2.trans (hbx.mono hb2.size)
    obtain ⟨g3, c3, w5, g4, c4, w6, hrC, hrD, ⟨hcy, hy⟩, hby⟩ := joined w4 a1 a2 l1 l2 len1 len2 k1 cap1 cap2 H1.out H2.out hk1 (by omega) (HR1.out.below hb4) (HR2.out.below hb4)
    have HX := hid (hx.below hby)
    have HY := hid hy
    have HCX := hid hcx
    have HCY := hid hcy
    have HB6 := hid (hb4.trans (hby.mono hb4.size))
    have HK0 := hid hk0
    have HK1 := hid hk1
    have HRA := hid hrA
    have HRB := hid hrB
    have HRC := hid hrC
    have HRD := hid hrD
    have tokA : True := trivial
    have tokB : True := trivial
    have tokC : True := trivial
    have tokD : True := trivial
    clear hb2 hk0 hk1 hrA hrB hrC hrD hcx hx hbx hb4 hcy hy hby
    go_wp2_with (first | (at_builtin; have _t := tokA; refine step_appl 22 rfl _ _ rfl _ _ rfl rfl _ w3 HRA.out ?_; clear tokA) | (at_builtin; have _t := tokB; refine step_appl 22 rfl _ _ rfl _ _ rfl rfl _ w4 HRB.out ?_; clear tokB) | (at_builtin; have _t := tokC; refine step_appl 22 rfl _ _ rfl _ _ rfl rfl _ w5 HRC.out ?_; clear tokC) | (at_builtin; have _t := tokD; refine step_appl 22 rfl _ _ rfl _ _ rfl rfl _ w6 HRD.out ?_; clear tokD))
    have hxl : (l0 ++ l2).length = k0 := by rw [List.length_append, H0.out, H2.out, HK0.out]
    have hyl : (l1 ++ l2).length = k1 := by rw [List.length_append, H1.out, H2.out, HK1.out]
    have hlp := endZ_last l0 l2 (by rw [H2.out]; omega)
    have hlq := endZ_last l1 l2 (by rw [H2.out]; omega)
    have HSAME := hid (endZ_same l0 l1 l2)
    rw [H0.out] at hlp HSAME
    rw [H1.out] at hlq HSAME
    rw [H2.out] at hlp hlq
    have HPL := hid hlp
    have HQL := hid hlq
    clear hlp hlq
    refine (endsl_any _ (l0 ++ l2) k0 c2 len0 w6 hxl HCX.out (by have := HK0.out; omega) (by omega) HX.out).mono ?_
    rintro e w7 ⟨v7, rfl, ho7, hb7⟩
    have HY7 := hid (HY.out.below hb7)
    have HB7 := hid (HB6.out.trans (hb7.mono HB6.out.size))
    have HO7 := hid ho7
    have HYL := hid hyl
    clear ho7 hb7 hxl hyl HX HY HCX HB6 HRA HRB HRC HRD
    go_wp2_with fail
    refine (endsl_any _ (l1 ++ l2) k1 c4 len1 w7 HYL.out HCY.out (by have := HK1.out; omega) (by omega) HY7.out).mono ?_
    rintro e w8 ⟨v8, rfl, ho8, hb8⟩
    have HB8 := hid (HB7.out.trans (hb8.mono HB7.out.size))
    have ho7 := owns_below HO7.out hb8
    obtain ⟨b, off, cp, rfl, hp⟩ := irow_at ho7 HPL.out.1
    obtain ⟨b', off', cq, rfl, hq⟩ := irow_at ho8 HQL.out.1
    have hP5 := endZ_most (l0 ++ l2) len0
    have hQ5 := endZ_most (l1 ++ l2) len1
    rw [List.length_append, H0.out, H2.out] at hP5
    rw [List.length_append, H1.out, H2.out] at hQ5
    generalize endZ (l0 ++ l2) len0 = p at *
    generalize endZ (l1 ++ l2) len1 = q at *
    obtain ⟨P, hP⟩ : ∃ P, p.length = P := ⟨_, rfl⟩
    obtain ⟨Q, hQ⟩ : ∃ Q, q.length = Q := ⟨_, rfl⟩
    rw [hP] at hp HPL HSAME hP5 ⊢
    rw [hQ] at hq HQL HSAME hQ5 ⊢
    have p5 : (P : Int) ≤ 3000 := by omega
    have q5 : (Q : Int) ≤ 3000 := by omega
    have HP := hid hp
    have HQ := hid hq
    have HPP := hid hP
    have HQQ := hid hQ
    clear hP5 hQ5 hp hq hP hQ ho7 ho8 hb8 HY7 HB7 HO7 HYL HCY HK0 HK1
    go_wp2_with fail
    go_loopg [12] P (fun gk v12 wr => ∃ i : Nat, i + gk = P ∧ v12 = .int .i64 (i : Int) ∧ (∀ i' j', i' < i → j' < Q → ¬ Meets p q i' j') ∧ ∃ nd, wr = w8.drewN nd)
    case atStart => exact ⟨0, by omega, rfl, fun i' j' h => by omega, 0, rfl⟩
    case round =>
      obtain ⟨i, hi, rfl, hno, nd, hnd⟩ := hrel
      have HI := hid hi
      have HNO := hid hno
      have HND := hid hnd
      clear hi hno hnd
      by_cases hiP : i < P
      · have hii : (i : Int) < (P : Int) := by omega
        go_wp2_with fail
        obtain ⟨G, hG⟩ : ∃ G, G = gk := ⟨_, rfl⟩
        subst hG
        go_loopg [13] Q (fun gk v13 w' => ∃ j : Nat, j + gk = Q ∧ v13 = .int .i64 (j : Int) ∧ (∀ j', j' < j → ¬ Meets p q i j') ∧ ∃ nd, w' = w8.drewN nd)
        case atStart => exact ⟨0, by omega, rfl, fun j' h => by omega, nd, HND.out⟩
        case round =>
          obtain ⟨j, hj, rfl, hno2, nd2, hnd2⟩ := hrel
          have HJ := hid hj
          have HNO2 := hid hno2
          have HND2 := hid hnd2
          have hbr : Below w8.heap.size w8 wr := by rw [hnd2]; exact to_drewN (Below.refl _ _) _
          clear hj hno2 hnd2
          by_cases hjQ : j < Q
          · have hjj : (j : Int) < (Q : Int) := by omega
            have hc1 := HP.out i hiP
            have hc2 := HQ.out j hjQ
            replace hc1 := (hbr.cell (block_lt_of_cell hc1)).trans hc1
            replace hc2 := (hbr.cell (block_lt_of_cell hc2)).trans hc2
            have HBR := hid hbr
            clear hbr
            by_cases hm : Meets p q i j
            · obtain ⟨e1, e2⟩ := hm
              obtain ⟨hd1, hd2⟩ := drop_at p q i j (HSAME.out i j hiP hjQ e1 (by omega))
              rw [HPP.out, HQQ.out] at hd1
              rw [← e1] at hc2
              have HD2 := hid hd2
              generalize p.getD i 0 = X at *
              have e3 : decide (X < 8) = false := by simp; omega
              have e4 : ((P : Int) - (i : Int) != (Q : Int) - (j : Int)) = false := by simp; omega
              obtain ⟨R, hR⟩ : ∃ R, P - i = R := ⟨_, rfl⟩
              have HRR := hid (show i + R = P ∧ j + R = Q by omega)
              clear e1 e2 hd1 hd2 hR
              go_wp2_with fail
              go_quiet (fail)
              go_wp2_with fail
              obtain ⟨G2, hG2⟩ : ∃ G2, G2 = gk := ⟨_, rfl⟩
              subst hG2
              obtain ⟨wq, hwq⟩ : ∃ wq, wq = wr.drewN nq := ⟨_, rfl⟩
              have HWQ : Hid (Below w8.heap.size w8 wq) := by rw [hwq]; exact to_drewN HBR.out _
              rw [← hwq]
              clear hwq
              go_loopg [14] R (fun gk v14 w' => ∃ k : Nat, k + gk = R ∧ v14 = .int .i64 (k : Int) ∧ Below w8.heap.size w8 w')
              case atStart => exact ⟨0, by omega, rfl, HWQ.out⟩
              case round =>
                obtain ⟨k, hk, rfl, hbk⟩ := hrel
                have HK := hid hk
                have HBK := hid hbk
                obtain ⟨I, hI⟩ : ∃ I, i + k = I := ⟨_, rfl⟩
                obtain ⟨J, hJ⟩ : ∃ J, j + k = J := ⟨_, rfl⟩
                have hI2 : (i : Int) + (k : Int) = (I : Int) := by omega
                have hJ2 : (j : Int) + (k : Int) = (J : Int) := by omega
                clear hc1 hc2
                by_cases hkR : k < R
                · have hIP : I < P := by have := HRR.out; omega
                  have hJQ : J < Q := by have := HRR.out; omega
                  have hII : (I : Int) < (P : Int) := by omega
                  have hc1 := HP.out I hIP
                  have hc2 := HQ.out J hJQ
                  have he := HD2.out k
                  rw [hI, hJ] at he
                  rw [← he] at hc2
                  replace hc1 := (hbk.cell (block_lt_of_cell hc1)).trans hc1
                  replace hc2 := (hbk.cell (block_lt_of_cell hc2)).trans hc2
                  have hJJ : (J : Int) < (Q : Int) := by omega
                  generalize p.getD I 0 = Y at *
                  have hwI : IntKind.i64.wrap ((i : Int) + (k : Int)) = (I : Int) := by rw [hI2]; exact wrap_i64 I (by omega)
                  have hwJ : IntKind.i64.wrap ((j : Int) + (k : Int)) = (J : Int) := by rw [hJ2]; exact wrap_i64 J (by omega)
                  have hk5 : (k : Int) ≤ 3000 := by omega
                  clear he hI hJ hk hbk hIP hJQ
                  go_wp2_with fail
                  go_quiet (fail)
                  go_wp2_with fail
                  go_roundg (gk - 1)
                  case measure => have := HK.out; omega
                  case rel => exact ⟨k + 1, by have := HK.out; omega, by go_num, to_drewN HBK.out _⟩
                · have hII : ¬ (I : Int) < (P : Int) := by have := HRR.out; omega
                  have hI5 : (I : Int) ≤ 3000 := by have := HRR.out; omega
                  clear hI hJ hk hbk
                  go_wp2_with fail
                  go_ret
                  exact ⟨rfl, HB8.out.trans (HBK.out.mono HB8.out.size)⟩
            · have HMM := hid hm
              have hx : p.getD i 0 ≠ q.getD j 0 ∨ (p.getD i 0 = q.getD j 0 ∧ p.getD i 0 < 8) := by
                by_cases e : p.getD i 0 = q.getD j 0
                · exact .inr ⟨e, Int.not_le.1 fun h => hm ⟨e, h⟩⟩
                · exact .inl e
              clear hm
              generalize p.getD i 0 = X at *
              generalize q.getD j 0 = Y at *
              rcases hx with hx | ⟨rfl, hx⟩
              · have e3 : (X != Y) = true := by simpa using hx
                have e4 : (X == Y) = false := by simpa using hx
                clear hx
                go_wp2_with fail
                go_quiet (fail)
                go_wp2_with fail
                go_roundg (gk - 1)
                case measure => have := HJ.out; omega
                case rel =>
                  refine ⟨j + 1, by have := HJ.out; omega, by go_num, fun j' h => ?_, nd2 + nq, by rw [HND2.out, World.drewN_drewN]⟩
                  by_cases e : j' = j
                  · rw [e]; exact HMM.out
                  · exact HNO2.out j' (by omega)
              · have e3 : decide (X < 8) = true := by simpa using hx
                clear hx
                go_wp2_with fail
                go_quiet (fail)
                go_wp2_with fail
                go_roundg (gk - 1)
                case measure => have := HJ.out; omega
                case rel =>
                  refine ⟨j + 1, by have := HJ.out; omega, by go_num, fun j' h => ?_, nd2 + nq, by rw [HND2.out, World.drewN_drewN]⟩
                  by_cases e : j' = j
                  · rw [e]; exact HMM.out
                  · exact HNO2.out j' (by omega)
          · have hjj : ¬ (j : Int) < (Q : Int) := by omega
            clear hbr
            go_wp2_with fail
            go_roundg (G - 1)
            case measure => have := HI.out; omega
            case rel =>
              refine ⟨i + 1, by have := HI.out; omega, by go_num, fun i' j' h h2 => ?_, nd2, HND2.out⟩
              by_cases e : i' = i
              · rw [e]; exact HNO2.out j' (by have := HJ.out; omega)
              · exact HNO.out i' j' (by omega) h2
      · have hii : ¬ (i : Int) < (P : Int) := by omega
        have hF : False := by
          have h1 := HPL.out
          have h2 := HQL.out
          refine HNO.out (P - 1) (Q - 1) (by omega) (by omega) ⟨by rw [h1.2, h2.2], by rw [h1.2]; omega⟩
        exact hF.elim
  · go_enter Try.func4, Try.ntmps4
    go_wp2_with fail
    refine (awake_any w).mono ?_
    rintro e w2 ⟨rfl, hb2⟩
    go_wp2_with fail
    all_goals first
      | (go_ret; exact ⟨rfl, hb2⟩)
      | (exfalso; omega)
set_option linter.unusedVariables false
set_option maxRecDepth 100000 in
theorem cutAgain_lifted (os : Os) (started : os.Started) (H : Type) (enc : TypeId × Value → H) :
    ReturnsInHanded {} Try.checked os 4 .any (Rows.cutAgainSpec.pre6 enc Try.prog Try.f4 Rows.cutAgainRow.domain false) (Rows.cutAgainSpec.post enc Try.prog Try.f4 false true false false) := by
  refine returnsInHanded_of_change (C := Try.checked) own started (by kernel_rfl) Try.func4
    (ChangeSpec.witness6 (enc := enc) (C := Try.checked) false ⟨#[], #[.slice none 0 0, .slice none 0 0, .slice none 0 0], []⟩ 8 (by kernel_rfl) (by kernel_rfl) (by kernel_rfl) (by kernel_rfl)) ?_
  intro W base args ds gs before hval0 hW hcnd _
  have hval : ∀ (j : Nat) t v, Try.f4.params[j]? = some t → args[j]? = some v → Value.okWide Try.prog W .any base t v := hval0
  have hW' := hW
  obtain ⟨p, q, hA0, hV, rfl, hfz, hnd⟩ := hW
  have hA : DataW.TrodAll enc Try.prog W 0 (fun _ => true) true Try.f4.params.toList args.toList ds p := hA0
  rw [Try.params4] at hA hval
  obtain ⟨v0, vs0, d0, ds0, p0, q0, hargs, rfl, rfl, h0, r0⟩ := trodAll_cons hA
  obtain ⟨v1, vs1, d1, ds1, p1, q1, rfl, rfl, rfl, h1, r1⟩ := trodAll_cons r0
  obtain ⟨v2, vs2, d2, ds2, p2, q2, rfl, rfl, rfl, h2, r2⟩ := trodAll_cons r1
  obtain ⟨rfl, rfl, rfl⟩ := trodAll_nil r2
  obtain rfl : args = #[v0, v1, v2] := by cases args; simp_all
  obtain ⟨rfl, rfl⟩ := trodVars_none hV
  obtain ⟨a0, len0, cap0, rfl⟩ := okWide_slice Try.underlying22 (hval 0 22 v0 rfl rfl)
  have k0 := h0
  have lt0 : ∀ x ∈ p0, x.block < W.heap.size := by obtain ⟨m, hm⟩ := k0; exact DataW.trod_lt m _ _ _ hm
  obtain ⟨z0, w0⟩ : ∃ zs, IsRow .u8 W a0 len0 cap0 zs := by
    obtain ⟨fuel, hf⟩ := h0
    rcases open_ints Try.underlying22 Try.underlying5 (by kernel_rfl) hf with ⟨hcs, _⟩ | ⟨x, l, c, zs, hcs, _, hl, hm, hz, _, hcell, hwz⟩
    · simp [Value.cells] at hcs
      obtain ⟨rfl, rfl, rfl⟩ := hcs
      exact ⟨[], .inl ⟨rfl, rfl, rfl, rfl⟩⟩
    · simp [Value.cells] at hcs
      obtain ⟨rfl, rfl, rfl⟩ := hcs
      exact ⟨zs, .inr ⟨_, rfl, hl, hm, by simpa using hz, hcell, hwz⟩⟩
  obtain ⟨a1, len1, cap1, rfl⟩ := okWide_slice Try.underlying22 (hval 1 22 v1 rfl rfl)
  have k1 := h1
  have lt1 : ∀ x ∈ p1, x.block < W.heap.size := by obtain ⟨m, hm⟩ := k1; exact DataW.trod_lt m _ _ _ hm
  obtain ⟨z1, w1⟩ : ∃ zs, IsRow .u8 W a1 len1 cap1 zs := by
    obtain ⟨fuel, hf⟩ := h1
    rcases open_ints Try.underlying22 Try.underlying5 (by kernel_rfl) hf with ⟨hcs, _⟩ | ⟨x, l, c, zs, hcs, _, hl, hm, hz, _, hcell, hwz⟩
    · simp [Value.cells] at hcs
      obtain ⟨rfl, rfl, rfl⟩ := hcs
      exact ⟨[], .inl ⟨rfl, rfl, rfl, rfl⟩⟩
    · simp [Value.cells] at hcs
      obtain ⟨rfl, rfl, rfl⟩ := hcs
      exact ⟨zs, .inr ⟨_, rfl, hl, hm, by simpa using hz, hcell, hwz⟩⟩
  obtain ⟨a2, len2, cap2, rfl⟩ := okWide_slice Try.underlying22 (hval 2 22 v2 rfl rfl)
  have k2 := h2
  have lt2 : ∀ x ∈ p2, x.block < W.heap.size := by obtain ⟨m, hm⟩ := k2; exact DataW.trod_lt m _ _ _ hm
  obtain ⟨z2, w2⟩ : ∃ zs, IsRow .u8 W a2 len2 cap2 zs := by
    obtain ⟨fuel, hf⟩ := h2
    rcases open_ints Try.underlying22 Try.underlying5 (by kernel_rfl) hf with ⟨hcs, _⟩ | ⟨x, l, c, zs, hcs, _, hl, hm, hz, _, hcell, hwz⟩
    · simp [Value.cells] at hcs
      obtain ⟨rfl, rfl, rfl⟩ := hcs
      exact ⟨[], .inl ⟨rfl, rfl, rfl, rfl⟩⟩
    · simp [Value.cells] at hcs
      obtain ⟨rfl, rfl, rfl⟩ := hcs
      exact ⟨zs, .inr ⟨_, rfl, hl, hm, by simpa using hz, hcell, hwz⟩⟩
  clear hA0 hval0
  refine (cutAgain_walk a0 len0 cap0 z0 a1 len1 cap1 z1 a2 len2 cap2 z2 W w0 w1 w2).mono fun e W' ⟨he, bel⟩ => ?_
  subst he
  exact ⟨_, rfl, _, _, _, [], _, [], hW', trodAll_mk1 (shut_bool Try.underlying4 _), (trodAll_cons_mk (Below.trod laidOut (by kernel_rfl) (of_decide_eq_true (by kernel_rfl)) k0 bel lt0) (trodAll_cons_mk (Below.trod laidOut (by kernel_rfl) (of_decide_eq_true (by kernel_rfl)) k1 bel lt1) (trodAll_cons_mk (Below.trod laidOut (by kernel_rfl) (of_decide_eq_true (by kernel_rfl)) k2 bel lt2) trodAll_mk0))), rfl, bel.frame _, fun h => by cases h⟩

theorem cutAgain_over : Rows.cutAgainRow.holds Try.pinned (OpenSpec.ofChange Rows.cutAgainSpec) :=
  OpenClaim.holds_of_wide 4 Try.f4 rfl rfl rfl rfl rfl rfl rfl ⟨rfl, rfl, rfl, rfl, rfl⟩ rfl rfl rfl rfl rfl (by kernel_rfl) Try.func4 (by kernel_rfl)
    (of_decide_eq_true (by kernel_rfl)) (by unfold Func.isWrapper; first | (rw [if_pos (by decide +kernel)]; kernel_rfl) | (rw [if_neg (by decide +kernel)]; exact ⟨rfl, rfl⟩))
    (fun os started H enc _ => cutAgain_lifted os started H enc)

theorem cutAgain_holds : Rows.CutAgainSaid := cutAgain_over
#print axioms cutAgain_holds
end Go.Proofs.Ytjjhaohgbhekhaa
