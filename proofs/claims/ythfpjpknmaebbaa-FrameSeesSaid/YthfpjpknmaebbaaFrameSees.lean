/- FrameSees: a frame of which up to four bytes one behind another are turned is none, and so is what stands behind it. No condition. -/
import Derived.Test.YthfpjpknmaebbaaAwake
import Derived.Lib.SlBytesConst
namespace Go.Proofs.Ythfpjpknmaebbaa
open Go.ChangeShapes Go.WideShapes Go.ChangeAt Go.RowKit Pen
open Crc (four nx run)
set_option maxRecDepth 4000
def behind : List Nat := [98, 101, 104, 105, 110, 100]
theorem Mine.kept {base : Nat} {w w' : World} {g m cap : Nat} {L : List Nat} (h : Mine base w g m cap L) (hk : w'.heap[g]? = w.heap[g]?) : Mine base w' g m cap L := by
  refine ⟨h.1, h.2.1, h.2.2.1, ?_⟩
  rcases h.2.2.2 with h3 | ⟨g', cap', cur, e, hb', hg, hc⟩
  · exact .inl h3
  · obtain rfl : g = g' := by simp at e; exact e.1
    exact .inr ⟨g, cap', cur, e, hb', hk.trans hg, hc⟩
theorem Mine.lt {base : Nat} {w : World} {g m cap : Nat} {L : List Nat} (h : Mine base w g m cap L) : g < w.heap.size := by
  obtain ⟨⟨_, cur, h1, _⟩, _⟩ := ownB_of h.1 h.2.2 h.2.1
  exact (Array.getElem?_eq_some_iff.1 h1).1
theorem up32 (X : Nat) : ∃ Y : Nat, Y < 4294967296 ∧ ((X : Int) + 1) % 4294967296 = (Y : Int) ∧ X ≠ Y := by
  refine ⟨(X + 1) % 4294967296, Nat.mod_lt _ (by decide), by omega, ?_⟩
  omega
set_option maxRecDepth 10000 in
set_option maxHeartbeats 4000000 in
theorem frameSees_walk (a : Option Addr) (l : List Nat) (n cap at_ t : Nat) (w : World) (hn : l.length = n) (hr : Row w a l) (hat : at_ < 65536) :
    Calls Try.prog 5 #[.slice a n cap, .int .u16 (at_ : Int), .int .u32 (t : Int)] w fun e w' => e = .returned (.bool true) ∧ Below w.heap.size w w' := by
  have HR := hid hr
  have HN := hid hn
  clear hr hn
  by_cases h1 : n < 1
  · have hi : (n : Int) < 1 := by omega
    go_enter Try.func5, Try.ntmps5
    go_wp2_with fail
    refine (awake_any w).mono ?_
    rintro e w1 ⟨rfl, hb1⟩
    have HB1 := hid hb1
    clear hb1
    go_wp2_with fail
    go_ret
    exact ⟨rfl, HB1.out⟩
  have hi : ¬ (n : Int) < 1 := by omega
  by_cases h3 : 3000 < n
  · have hi3 : (3000 : Int) < (n : Int) := by omega
    go_enter Try.func5, Try.ntmps5
    go_wp2_with fail
    refine (awake_any w).mono ?_
    rintro e w1 ⟨rfl, hb1⟩
    have HB1 := hid hb1
    clear hb1
    go_wp2_with fail
    go_ret
    exact ⟨rfl, HB1.out⟩
  have hi3 : ¬ (3000 : Int) < (n : Int) := by omega
  by_cases ht0 : t = 0
  · subst ht0
    go_enter Try.func5, Try.ntmps5
    go_wp2_with fail
    refine (awake_any w).mono ?_
    rintro e w1 ⟨rfl, hb1⟩
    have HB1 := hid hb1
    clear hb1
    go_wp2_with fail
    go_ret
    exact ⟨rfl, HB1.out⟩
  have hti : ((t : Int) == 0) = false := by simp; omega
  clear ht0
  obtain ⟨m, hm⟩ : ∃ m, n + 16 = m := ⟨_, rfl⟩
  have HM := hid hm
  obtain ⟨K, hK, hKm⟩ : ∃ K : Nat, (at_ : Int) % (m : Int) = (K : Int) ∧ K < m := ⟨at_ % m, by rw [Int.natCast_emod], Nat.mod_lt _ (by omega)⟩
  have hK2 : (at_ : Int).tmod (m : Int) = (K : Int) := by rw [Int.tmod_eq_emod_of_nonneg (by omega)]; exact hK
  have hm0 : ((m : Int) == 0) = false := by simp; omega
  go_enter Try.func5, Try.ntmps5
  go_wp2_with fail
  refine (awake_any w).mono ?_
  rintro e w1 ⟨rfl, hb1⟩
  have HB1 := hid hb1
  clear hb1
  go_wp2_with fail
  refine (make_any 9 3 a l n cap w1 (by decide) (by decide) HN.out (by omega) (by omega) (HR.out.below HB1.out)).mono ?_
  rintro e w2 ⟨g2, c2, rfl, hm2, hb2⟩
  rw [hm] at hm2 ⊢
  have HM2 := hid (hm2.low HB1.out.size)
  have HB2 := hid (HB1.out.trans (hb2.mono HB1.out.size))
  clear hm2 hb2 HB1 hm
  have HX := hid (Crc.nx_lt 9 l)
  have HRD : Hid (∀ (Y : List Nat) (i : Nat) (c : Bool), Turn (mk 9 3 l) Y K i c → i ≤ 4 → (∀ x ∈ Y, x < 256) → rd 9 Y = if c then none else some (l, 3)) := fun Y i c h hi' hY => turn_ends (by have := HN.out; omega) (by have := HN.out; omega) (by decide) HR.out.1 h hi' hY
  generalize hXX : nx 9 l = X at *
  have HXX := hid hXX
  clear hXX
  obtain ⟨X1, hX1, hX2, hX3⟩ := up32 X
  have HX1 := hid (And.intro hX1 hX3)
  obtain ⟨w3, hw3⟩ : ∃ w3, w3 = w2.alloc (.cells #[.int .u8 98, .int .u8 101, .int .u8 104, .int .u8 105, .int .u8 110, .int .u8 100] 5 (6, 7)) := ⟨_, rfl⟩
  have hcv : (convert 23 23 (.slice (some ⟨w2.heap.size, 0, none⟩) 6 6)).run Try.prog (w2.alloc (.cells #[.int .u8 98, .int .u8 101, .int .u8 104, .int .u8 105, .int .u8 110, .int .u8 100] 5)) = .ok (.slice (some ⟨w2.heap.size, 0, none⟩) 6 6) w3 := by
    rw [hw3]; exact Lib.run_convert_bytes_const w2 23 5 _ 6 6 Try.underlying23 Try.underlying5
  have hb3 : Below w2.heap.size w2 w3 := by rw [hw3]; exact (Below.refl _ _).alloc (Nat.le_refl _) _
  have HR3 : Hid (Row w3 (some ⟨w2.heap.size, 0, none⟩) behind) := by rw [hw3]; exact row_new w2 behind (by simp [behind]) 5 (6, 7)
  have HB3 := hid (HB2.out.trans (hb3.mono HB2.out.size))
  have HM3 := hid (HM2.out.below hb3)
  clear hw3 hb3 HM2 HB2 hX1 hX3
  go_wp2_with fail
  refine (make_any X 3 _ behind 6 6 w3 HX.out (by decide) rfl (by decide) (by decide) HR3.out).mono ?_
  rintro e w4 ⟨g4, c4, rfl, hm4, hb4⟩
  have HM4 := hid (hm4.low HB3.out.size)
  have HF4 := hid (HM3.out.below hb4)
  have HB4 := hid (HB3.out.trans (hb4.mono HB3.out.size))
  clear hcv hm4 hb4 HB3 HM3 HR3
  obtain ⟨w5, hw5⟩ : ∃ w5, w5 = w4.alloc (.cells #[] 5) := ⟨_, rfl⟩
  have hb5 : Below w4.heap.size w4 w5 := by rw [hw5]; exact (Below.refl _ _).alloc (Nat.le_refl _) _
  have hm5 : Mine w4.heap.size w5 w4.heap.size 0 0 [] := by rw [hw5]; exact mine_empty w4
  obtain ⟨g6, c6, w6, hrun6, hm6, hb6⟩ := hm5.app 23 _ (mk 9 3 l) m c2 HF4.out.1 (HF4.out.row.2.below hb5) m (by omega) (by have := HM.out; omega) hb5.size
  rw [List.nil_append] at hm6
  have HM6 := hid hm6
  have HG6 := hid (HM4.out.below (hb5.trans hb6))
  have HB6 := hid (HB4.out.trans ((hb5.trans hb6).mono HB4.out.size))
  have HR6 := hid hrun6
  have HL4 := hid HB4.out.size
  have HW5 := hid hw5
  rw [hw5] at HR6
  have HGG : Hid (g4 < w4.heap.size) := HM4.out.lt
  clear hw5 hb5 hm5 hrun6 hm6 hb6 HM4 HF4 HB4 HW5
  have tok : True := trivial
  go_wp2_with (at_builtin; have _t := tok; refine step_appl 23 rfl _ _ rfl _ _ rfl rfl _ w6 HR6.out ?_; clear tok)
  obtain ⟨hob, hgb, hcp⟩ := ownB_of HM6.out.1 HM6.out.2.2 HM6.out.2.1
  have HOB := hid hob
  have HCP := hid hcp
  have HG : Hid (w.heap.size ≤ g6 ∧ g4 ≠ g6) := by have := HL4.out; have := HGG.out; show _ ∧ _; omega
  have HLM : Hid ((mk 9 3 l).length = m) := HM6.out.1
  have HR1 : Hid (rd X (mk X 3 behind) = some (behind, 3)) := rd_mk0 (by decide) (by decide) (by decide)
  have HR2 : Hid (rd X1 (mk X 3 behind) = none) := by
    have h := rd_other HX.out HX1.out.1 HX1.out.2 (r := behind) (b := 3) (by decide) (by decide) []
    rw [List.append_nil] at h
    exact h
  generalize nx X behind = N4
  have hKs : K ≤ 3015 := by have := HM.out; omega
  clear hob hgb hcp HM6 HR6 hK hK2
  go_loopg [15, 16] 4 (fun gk v15 v16 wr => ∃ (i : Nat) (Y : List Nat) (c : Bool), i + gk = 4 ∧ v16 = .int .i64 (i : Int) ∧ v15 = .bool c ∧ Turn (mk 9 3 l) Y K i c ∧ OwnB wr g6 Y ∧ Mine w.heap.size wr g4 22 c4 (mk X 3 behind) ∧ Below w.heap.size w wr)
  case atStart => exact ⟨0, mk 9 3 l, false, rfl, rfl, rfl, turn_zero _ _, HOB.out, HG6.out, HB6.out⟩
  case round =>
    obtain ⟨i, Y, c, hi, rfl, rfl, htn, hoy, hmr, hbr⟩ := hrel
    have HTN := hid htn
    have HOY := hid hoy
    have HMR := hid hmr
    have HBR := hid hbr
    clear htn hoy hmr hbr HOB HG6 HB6
    by_cases hgo : i < 4 ∧ K + i < m
    · have hii : (i : Int) < 4 := by omega
      have haii : (K : Int) + (i : Int) < (m : Int) := by omega
      have hc := HOY.out.cell (K + i) (by rw [HTN.out.len, HLM.out]; omega)
      have hf := HOY.out.fr (K + i)
      generalize hyy : Y.getD (K + i) 0 = yy at *
      have hyl : yy < 256 := by rw [← hyy]; exact getD_lt HOY.out.1 _
      obtain ⟨y, hy, hyn⟩ : ∃ y : Nat, (t : Int) / 2 ^ (8 * i) % 256 = (y : Int) ∧ y < 256 := ⟨t / 2 ^ (8 * i) % 256, by push_cast; rfl, Nat.mod_lt _ (by decide)⟩
      have hx : bits .xor .u8 (yy : Int) ((t : Int) / 2 ^ (8 * i) % 256) = ((yy ^^^ y : Nat) : Int) := by
        rw [hy]
        exact u8_xor_nat yy y hyl hyn
      have hb : ((t : Int) / 2 ^ (8 * i) % 256 != 0) = !(y == 0) := by
        rw [hy]
        by_cases h : y = 0
        · subst h; rfl
        · have h1 : ((y : Int) != 0) = true := by simp; omega
          have h2 : (y == 0) = false := by simpa using h
          rw [h1, h2]; rfl
      have hxl : yy ^^^ y < 256 := Nat.xor_lt_two_pow (n := 8) hyl hyn
      have HSTP := hid (HTN.out.step y (by rw [HLM.out]; omega))
      rw [hyy] at HSTP
      have HOS := hid (HOY.out.set (K + i) (yy ^^^ y) (by rw [HTN.out.len, HLM.out]; omega) hxl)
      have HBS : Hid (Below w.heap.size w (wr.setCell ⟨g6, K + i, none⟩ (.int .u8 ((yy ^^^ y : Nat) : Int)))) := HBR.out.setCell HG.out.1 _
      have HMS : Hid (Mine w.heap.size (wr.setCell ⟨g6, K + i, none⟩ (.int .u8 ((yy ^^^ y : Nat) : Int))) g4 22 c4 (mk X 3 behind)) := HMR.out.kept (Below.heap_setCell _ _ _ _ HG.out.2)
      have HX' := hid hx
      have HBB := hid hb
      clear hx hb hy hyn hxl hyl hyy
      cases c
      · go_wp2_with fail
        rw [HX'.out, HBB.out]
        go_roundg (gk - 1)
        case measure => omega
        case rel => exact ⟨i + 1, _, _, by omega, by go_num, by rw [Bool.false_or], HSTP.out, HOS.out, HMS.out, HBS.out⟩
      · go_wp2_with fail
        rw [HX'.out]
        go_roundg (gk - 1)
        case measure => omega
        case rel => exact ⟨i + 1, _, _, by omega, by go_num, by rw [Bool.true_or], HSTP.out, HOS.out, HMS.out, HBS.out⟩
    · have HTE := hid (HRD.out Y i c HTN.out (by omega) HOY.out.1)
      cases c
      · rw [if_neg (by simp)] at HTE
        rcases (by omega : ¬ (i : Int) < 4 ∨ ((i : Int) < 4 ∧ ¬ (K : Int) + (i : Int) < (m : Int))) with q | ⟨q, q'⟩
        all_goals
          clear hgo
          go_wp2_with fail
          refine (read_any 9 _ Y m c6 wr (by decide) (by rw [HTN.out.len, HLM.out]) HCP.out HOY.out.row).mono ?_
          rintro e w7 ⟨hrd, hb7⟩
          rw [HTE.out] at hrd
          obtain ⟨a7, n7, c7, rfl, -, -⟩ := readen_some hrd
          rw [HXX.out]
          have HM7 := hid (HMR.out.below hb7)
          have HB7 := hid (HBR.out.trans (hb7.mono HBR.out.size))
          clear hrd hb7
          go_wp2_with fail
          refine (read_any X _ (mk X 3 behind) 22 c4 w7 HX.out HM7.out.1 HM7.out.row.1 HM7.out.row.2).mono ?_
          rintro e w8 ⟨hrd, hb8⟩
          rw [HR1.out] at hrd
          obtain ⟨a8, n8, c8, rfl, -, -⟩ := readen_some hrd
          have HM8 := hid (HM7.out.below hb8)
          have HB8 := hid (HB7.out.trans (hb8.mono HB7.out.size))
          clear hrd hb8 HM7 HB7
          go_wp2_with fail
          refine (read_any X1 _ (mk X 3 behind) 22 c4 w8 HX1.out.1 HM8.out.1 HM8.out.row.1 HM8.out.row.2).mono ?_
          rintro e w9 ⟨hrd, hb9⟩
          rw [HR2.out] at hrd
          obtain rfl := readen_none hrd
          have HB9 := hid (HB8.out.trans (hb9.mono HB8.out.size))
          clear hrd hb9 HM8 HB8
          go_wp2_with fail
          go_ret
          exact ⟨rfl, HB9.out⟩
      · rw [if_pos rfl] at HTE
        rcases (by omega : ¬ (i : Int) < 4 ∨ ((i : Int) < 4 ∧ ¬ (K : Int) + (i : Int) < (m : Int))) with q | ⟨q, q'⟩
        all_goals
          clear hgo
          go_wp2_with fail
          refine (read_any 9 _ Y m c6 wr (by decide) (by rw [HTN.out.len, HLM.out]) HCP.out HOY.out.row).mono ?_
          rintro e w7 ⟨hrd, hb7⟩
          rw [HTE.out] at hrd
          obtain rfl := readen_none hrd
          have HM7 := hid (HMR.out.below hb7)
          have HB7 := hid (HBR.out.trans (hb7.mono HBR.out.size))
          clear hrd hb7
          go_wp2_with fail
          refine (read_any X _ (mk X 3 behind) 22 c4 w7 HX.out HM7.out.1 HM7.out.row.1 HM7.out.row.2).mono ?_
          rintro e w8 ⟨hrd, hb8⟩
          rw [HR1.out] at hrd
          obtain ⟨a8, n8, c8, rfl, -, -⟩ := readen_some hrd
          have HM8 := hid (HM7.out.below hb8)
          have HB8 := hid (HB7.out.trans (hb8.mono HB7.out.size))
          clear hrd hb8 HM7 HB7
          go_wp2_with fail
          refine (read_any X1 _ (mk X 3 behind) 22 c4 w8 HX1.out.1 HM8.out.1 HM8.out.row.1 HM8.out.row.2).mono ?_
          rintro e w9 ⟨hrd, hb9⟩
          rw [HR2.out] at hrd
          obtain rfl := readen_none hrd
          have HB9 := hid (HB8.out.trans (hb9.mono HB8.out.size))
          clear hrd hb9 HM8 HB8
          go_wp2_with fail
          go_ret
          exact ⟨rfl, HB9.out⟩
set_option linter.unusedVariables false
theorem frameSees_all (a0 : Option Addr) (len0 cap0 : Nat) (z0 : List Int) (a1 : Int) (a2 : Int) (w : World) (w0 : IsRow .u8 w a0 len0 cap0 z0) (w1 : (Lit.int .u16 a1).wf = true) (w2 : (Lit.int .u32 a2).wf = true) :
    Calls Try.prog 5 #[.slice a0 len0 cap0, .int .u16 a1, .int .u32 a2] w fun e w' => e = .returned (.bool true) ∧ Below w.heap.size w w' := by
  have hb1 := bounds_u16 w1
  have hb2 := bounds_u32 w2
  obtain ⟨n1, rfl⟩ : ∃ n : Nat, a1 = (n : Int) := ⟨a1.toNat, by omega⟩
  obtain ⟨n2, rfl⟩ : ∃ n : Nat, a2 = (n : Int) := ⟨a2.toNat, by omega⟩
  obtain ⟨l, hl, hr, hc, _⟩ := bytes_of w0
  exact frameSees_walk a0 l len0 cap0 n1 n2 w hl hr (by omega)

set_option maxRecDepth 100000 in
theorem frameSees_lifted (os : Os) (started : os.Started) (H : Type) (enc : TypeId × Value → H) :
    ReturnsInHanded {} Try.checked os 5 .any (Rows.frameSeesSpec.pre6 enc Try.prog Try.f5 Rows.frameSeesRow.domain false) (Rows.frameSeesSpec.post enc Try.prog Try.f5 false true false false) := by
  refine returnsInHanded_of_change (C := Try.checked) own started (by kernel_rfl) Try.func5
    (ChangeSpec.witness6 (enc := enc) (C := Try.checked) false ⟨#[], #[.slice none 0 0, .int .u16 0, .int .u32 0], []⟩ 8 (by kernel_rfl) (by kernel_rfl) (by kernel_rfl) (by kernel_rfl)) ?_
  intro W base args ds gs before hval0 hW hcnd _
  have hval : ∀ (j : Nat) t v, Try.f5.params[j]? = some t → args[j]? = some v → Value.okWide Try.prog W .any base t v := hval0
  have hW' := hW
  obtain ⟨p, q, hA0, hV, rfl, hfz, hnd⟩ := hW
  have hA : DataW.TrodAll enc Try.prog W 0 (fun _ => true) true Try.f5.params.toList args.toList ds p := hA0
  rw [Try.params5] at hA hval
  obtain ⟨v0, vs0, d0, ds0, p0, q0, hargs, rfl, rfl, h0, r0⟩ := trodAll_cons hA
  obtain ⟨v1, vs1, d1, ds1, p1, q1, rfl, rfl, rfl, h1, r1⟩ := trodAll_cons r0
  obtain ⟨v2, vs2, d2, ds2, p2, q2, rfl, rfl, rfl, h2, r2⟩ := trodAll_cons r1
  obtain ⟨rfl, rfl, rfl⟩ := trodAll_nil r2
  obtain rfl : args = #[v0, v1, v2] := by cases args; simp_all
  obtain ⟨rfl, rfl⟩ := trodVars_none hV
  obtain ⟨a0, len0, cap0, rfl⟩ := okWide_slice Try.underlying23 (hval 0 23 v0 rfl rfl)
  have k0 := h0
  have lt0 : ∀ x ∈ p0, x.block < W.heap.size := by obtain ⟨m, hm⟩ := k0; exact DataW.trod_lt m _ _ _ hm
  obtain ⟨z0, w0⟩ : ∃ zs, IsRow .u8 W a0 len0 cap0 zs := by
    obtain ⟨fuel, hf⟩ := h0
    rcases open_ints Try.underlying23 Try.underlying5 (by kernel_rfl) hf with ⟨hcs, _⟩ | ⟨x, l, c, zs, hcs, _, hl, hm, hz, _, hcell, hwz⟩
    · simp [Value.cells] at hcs
      obtain ⟨rfl, rfl, rfl⟩ := hcs
      exact ⟨[], .inl ⟨rfl, rfl, rfl, rfl⟩⟩
    · simp [Value.cells] at hcs
      obtain ⟨rfl, rfl, rfl⟩ := hcs
      exact ⟨zs, .inr ⟨_, rfl, hl, hm, by simpa using hz, hcell, hwz⟩⟩
  obtain ⟨a1, rfl, rfl, rfl, w1⟩ := open_int Try.underlying36 (hval 1 36 v1 rfl rfl) h1
  obtain ⟨a2, rfl, rfl, rfl, w2⟩ := open_int Try.underlying25 (hval 2 25 v2 rfl rfl) h2
  clear hA0 hval0
  refine (frameSees_all a0 len0 cap0 z0 a1 a2 W w0 w1 w2).mono fun e W' ⟨he, bel⟩ => ?_
  subst he
  exact ⟨_, rfl, _, _, _, [], _, [], hW', trodAll_mk1 (shut_bool Try.underlying4 _), (trodAll_cons_mk (Below.trod laidOut (by kernel_rfl) (of_decide_eq_true (by kernel_rfl)) k0 bel lt0) (trodAll_cons_mk (shut_int Try.underlying36 w1) (trodAll_cons_mk (shut_int Try.underlying25 w2) trodAll_mk0))), rfl, bel.frame _, fun h => by cases h⟩

theorem frameSees_over : Rows.frameSeesRow.holds Try.pinned (OpenSpec.ofChange Rows.frameSeesSpec) :=
  OpenClaim.holds_of_wide 5 Try.f5 rfl rfl rfl rfl rfl rfl rfl ⟨rfl, rfl, rfl, rfl, rfl⟩ rfl rfl rfl rfl rfl (by kernel_rfl) Try.func5 (by kernel_rfl)
    (of_decide_eq_true (by kernel_rfl)) (by unfold Func.isWrapper; first | (rw [if_pos (by decide +kernel)]; kernel_rfl) | (rw [if_neg (by decide +kernel)]; exact ⟨rfl, rfl⟩))
    (fun os started H enc _ => frameSees_lifted os started H enc)

theorem frameSees_holds : Rows.FrameSeesSaid := frameSees_over
#print axioms frameSees_holds
end Go.Proofs.Ythfpjpknmaebbaa
