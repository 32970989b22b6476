/- Proved: the law 'PenReads' (any bytes, read as whatever is asked: what stands there, or Bad from then on) answers true, and what came in reads as it did. No condition. -/
import Derived.Test.YtpeecmfchnlmlaaRefText
import Derived.Deep.QuietTactic
import Derived.BigQuiet
namespace Go.Proofs.Ytpeecmfchnlmlaa
open Go.ChangeShapes Go.WideShapes Go.ChangeAt Go.RowKit Pen
set_option linter.unusedVariables false
theorem Same.kept {B : Nat} {w w' : World} {q : Nat} {l : List Nat} {bad : Bool} (h : Same B w q l bad) (hq : w'.heap[q]? = w.heap[q]?) (hb : Below B w w') : Same B w' q l bad := by
  obtain ⟨h0, l', h1, h2⟩ := h
  exact ⟨h0, l', h1.kept hq hb, h2⟩
theorem Same.lt {B : Nat} {w : World} {q : Nat} {l : List Nat} {bad : Bool} (h : Same B w q l bad) : q < w.heap.size ∧ B ≤ q := by
  obtain ⟨h0, l', h1, h2⟩ := h
  refine ⟨h1.lt, ?_⟩
  obtain ⟨a, n, cap, _, _, _, _, _, h6⟩ := h1
  exact h6
theorem Same.flag {B : Nat} {w : World} {q : Nat} {l : List Nat} {bad : Bool} (h : Same B w q l bad) : w.cell? ⟨q, 1, none⟩ = some (.bool bad) := by
  obtain ⟨h0, l', ⟨a, n, cap, h1, _⟩, h2⟩ := h
  exact (cell2 h1).2
/-- Both Eyes, side by side. -/
def Two (w W : World) (q m : Nat) (l : List Nat) (bad : Bool) : Prop := EyeAt W q l bad ∧ Same w.heap.size W m l bad ∧ Below w.heap.size w W ∧ w.heap.size ≤ q ∧ q ≠ m
/-- Each has read in turn. -/
theorem Two.step {w W W1 W2 : World} {q m : Nat} {l l' : List Nat} {bad bad' : Bool} (h : Two w W q m l bad) (h1 : EyeAt W1 q l' bad') (o1 : Only q none W W1) (h2 : Same w.heap.size W2 m l' bad') (o2 : Only m none W1 W2) : Two w W2 q m l' bad' := by
  obtain ⟨_, hs, hb, hq, hm⟩ := h
  have b1 := o1.below hq (by simp) hb.size
  have b2 := o2.below hs.lt.2 (by simp) (Nat.le_trans hb.size o1.size)
  exact ⟨h1.kept (o2.block q h1.lt hm (by simp)), h2, (hb.trans b1).trans b2, hq, hm⟩
theorem Two.mid {w W W1 : World} {q m : Nat} {l : List Nat} {bad : Bool} (h : Two w W q m l bad) (o1 : Only q none W W1) : Same w.heap.size W1 m l bad := by
  obtain ⟨_, hs, hb, hq, hm⟩ := h
  exact hs.kept (o1.block m hs.lt.1 (Ne.symm hm) (by simp)) (o1.below hq (by simp) hb.size)
theorem EyeAt.drewN {w : World} {q : Nat} {l : List Nat} {bad : Bool} (h : EyeAt w q l bad) (n : Nat) : EyeAt (w.drewN n) q l bad := ⟨h.1, h.2⟩
theorem below_drewN {B : Nat} {w W : World} (h : Below B w W) (n : Nat) : Below B w (W.drewN n) := ⟨h.os, h.tape, h.output, h.size, h.block⟩
theorem Same.drewN {B : Nat} {w : World} {q : Nat} {l : List Nat} {bad : Bool} (h : Same B w q l bad) (n : Nat) : Same B (w.drewN n) q l bad := h.kept rfl (below_drewN (Below.refl _ _) n)
theorem Two.drewN {w W : World} {q m : Nat} {l : List Nat} {bad : Bool} (h : Two w W q m l bad) (n : Nat) : Two w (W.drewN n) q m l bad := ⟨h.1.drewN n, h.2.1.drewN n, below_drewN h.2.2.1 n, h.2.2.2⟩
theorem penReads_long (a1 a2 : Option Addr) (n1 c1 n2 c2 : Nat) (w : World) (h : 3000 < n1 ∨ 100 < n2) :
    Calls Try.prog 4 #[.slice a1 n1 c1, .slice a2 n2 c2] w fun e w' => e = .returned (.bool true) ∧ Below w.heap.size w w' := by
  have h2 : (3000 : Int) < (n1 : Int) ∨ (¬ (3000 : Int) < (n1 : Int) ∧ (100 : Int) < (n2 : Int)) := by omega
  clear h
  rcases h2 with g1 | ⟨g1, g2⟩
  all_goals
    go_enter Try.func4, Try.ntmps4
    go_wp2_with fail
    refine (awake_any _).mono ?_
    rintro e w0 ⟨rfl, hb0⟩
    go_wp2_with fail
    go_ret
    exact ⟨rfl, hb0⟩
set_option maxRecDepth 20000 in
set_option maxHeartbeats 4000000 in
theorem penReads_walk (a1 a2 : Option Addr) (lb la : List Nat) (n1 c1 n2 c2 : Nat) (w : World) (hn1 : lb.length = n1) (hn2 : la.length = n2) (hb1 : n1 ≤ 3000) (hb2 : n2 ≤ 100) (r1 : Row w a1 lb) (r2 : Row w a2 la) (k1 : n1 ≤ c1) (m1 : c1 ≤ maxLen) :
    Calls Try.prog 4 #[.slice a1 n1 c1, .slice a2 n2 c2] w fun e w' => e = .returned (.bool true) ∧ Below w.heap.size w w' := by
  have g1 : ¬ (3000 : Int) < (n1 : Int) := by omega
  have g2 : ¬ (100 : Int) < (n2 : Int) := by omega
  have HN1 := hid hn1
  have HN2 := hid hn2
  have HR1 := hid r1
  have HR2 := hid r2
  have HK1 := hid k1
  have HM1 := hid m1
  clear hn1 hn2 r1 r2 k1 m1
  go_enter Try.func4, Try.ntmps4
  go_wp2_with fail
  refine (awake_any _).mono ?_
  rintro e w0 ⟨rfl, hb0⟩
  go_wp2_with fail
  refine (new_any a1 lb n1 c1 HN1.out (HR1.out.below hb0)).mono ?_
  rintro e w1 ⟨rfl, rfl⟩
  go_wp2_with fail
  have HT : Hid (Two w ((w0.alloc (.cells #[.string (strOf lb), .bool false] 60)).alloc (.cells #[.slice a1 n1 c1, .bool false] 47)) w0.heap.size (w0.heap.size + 1) lb false) := by
    have e1 := EyeAt.new w0 lb HR1.out.1
    have b1 : Below w.heap.size w (w0.alloc (.cells #[.string (strOf lb), .bool false] 60)) := hb0.alloc hb0.size _
    have b2 : Below w.heap.size w ((w0.alloc (.cells #[.string (strOf lb), .bool false] 60)).alloc (.cells #[.slice a1 n1 c1, .bool false] 47)) := b1.alloc b1.size _
    have hh := heap_alloc_new (w0.alloc (.cells #[.string (strOf lb), .bool false] 60)) (.cells #[.slice a1 n1 c1, .bool false] 47)
    have hsz : (w0.alloc (.cells #[.string (strOf lb), .bool false] 60)).heap.size = w0.heap.size + 1 := by simp
    rw [hsz] at hh
    have hlow : RowLow w.heap.size w a1 lb := ⟨HR1.out.1, HR1.out.2⟩
    exact ⟨e1.below ((Below.refl _ _).alloc (Nat.le_refl _) _), ⟨by simp, lb, ⟨a1, n1, c1, hh, HN1.out, HK1.out, HM1.out, hlow.below b2, by have := hb0.size; omega⟩, fun _ => rfl⟩, b2, hb0.size, by omega⟩
  generalize (w0.alloc (.cells #[.string (strOf lb), .bool false] 60)).alloc (.cells #[.slice a1 n1 c1, .bool false] 47) = W at HT ⊢
  obtain ⟨m, hm⟩ : ∃ m, w0.heap.size + 1 = m := ⟨_, rfl⟩
  rw [hm] at HT ⊢
  obtain ⟨q, hq⟩ : ∃ q, w0.heap.size = q := ⟨_, rfl⟩
  rw [hq] at HT ⊢
  clear hm hq hb0
  go_loopg [7] n2 (fun k v wr => ∃ (i : Nat) (l : List Nat) (bad : Bool), i + k = n2 ∧ v = .int .i64 (i : Int) ∧ Two w wr q m l bad)
  case atStart => exact ⟨0, lb, false, by omega, rfl, HT.out⟩
  case round =>
    obtain ⟨i, l, bad, hi, rfl, htwo⟩ := hrel
    have HI := hid hi
    have H2 := hid htwo
    clear hi htwo HT
    by_cases hlt : i < n2
    · have i1 : (i : Int) < (n2 : Int) := by omega
      have i0 : (0 : Int) ≤ (i : Int) := by omega
      obtain ⟨b, off, rfl, hbl, hcell⟩ : ∃ b off, a2 = some ⟨b, off, none⟩ ∧ b < w.heap.size ∧ ∀ i, i < la.length → w.cell? ⟨b, off + i, none⟩ = some (.int .u8 (la.getD i 0 : Nat)) := by
        rcases HR2.out.2 with h | h
        · have := HN2.out; rw [h] at this; simp at this; omega
        · exact h
      obtain ⟨x, hx⟩ : ∃ x, la.getD i 0 = x := ⟨_, rfl⟩
      have hx2 : x < 256 := by rw [← hx]; exact getD_lt HR2.out.1 i
      have hc : wr.cell? ⟨b, off + i, none⟩ = some (.int .u8 (x : Int)) := by
        rw [← hx]
        exact (H2.out.2.2.1.cell (p := ⟨b, off + i, none⟩) hbl).trans (hcell i (by rw [HN2.out]; exact hlt))
      clear hcell hx
      have c4 : ((((x : Int) % 4 == 0) = true)) ∨ ((((x : Int) % 4 == 0) = false) ∧ (((x : Int) % 4 == 1) = true)) ∨ ((((x : Int) % 4 == 0) = false) ∧ (((x : Int) % 4 == 1) = false) ∧ (((x : Int) % 4 == 2) = true)) ∨ ((((x : Int) % 4 == 0) = false) ∧ (((x : Int) % 4 == 1) = false) ∧ (((x : Int) % 4 == 2) = false)) := by
        simp only [beq_iff_eq, beq_eq_false_iff_ne, ne_eq]
        omega
      rcases c4 with d0 | ⟨d0, d1⟩ | ⟨d0, d1, d2⟩ | ⟨d0, d1, d2⟩
      · go_wp2_with fail
        refine (byte_any H2.out.1).mono ?_
        rintro e w1 ⟨rfl, he1, ho1⟩
        obtain ⟨y, hy⟩ : ∃ y, l.getD 0 0 = y := ⟨_, rfl⟩
        rw [hy]
        go_wp2_with fail
        refine (sbyte (H2.out.mid ho1)).mono ?_
        rintro e w2 ⟨rfl, hs2, ho2⟩
        have H3 := hid (H2.out.step he1 ho1 hs2 ho2)
        clear he1 ho1 hs2 ho2 H2 hc
        rw [hy]
        clear hy
        generalize l.tail = l3 at H3
        generalize (bad || l.isEmpty) = bad3 at H3
        have hfl := H3.out.2.1.flag
        have kB := fun n => bad_any (H3.out.1.drewN n)
        have kL := fun n => left_any (H3.out.1.drewN n)
        have kM := fun n => sleft (H3.out.2.1.drewN n)
        generalize l3.length = n3 at kL kM
        go_wp2_with fail
        go_quiet (first
          | exact Calls.quiet_of_same (kB _)
          | exact Calls.quiet_of_same (kL _)
          | exact Calls.quiet_of_same (kM _))
        go_wp2_with fail
        go_roundg (gk - 1)
        case measure => have := HI.out; omega
        case rel =>
          have := HI.out
          exact ⟨i + 1, l3, bad3, by omega, by go_num, H3.out.drewN _⟩
      · go_wp2_with fail
        refine (num_any H2.out.1).mono ?_
        rintro e w1 ⟨rfl, he1, ho1⟩
        obtain ⟨y, hy⟩ : ∃ y, (eNum 9 0 0 l).1 = y := ⟨_, rfl⟩
        rw [hy]
        go_wp2_with fail
        refine (snum (H2.out.mid ho1)).mono ?_
        rintro e w2 ⟨rfl, hs2, ho2⟩
        have H3 := hid (H2.out.step he1 ho1 hs2 ho2)
        clear he1 ho1 hs2 ho2 H2 hc
        rw [hy]
        clear hy
        generalize (eNum 9 0 0 l).2.1 = l3 at H3
        generalize (bad || (eNum 9 0 0 l).2.2) = bad3 at H3
        have hfl := H3.out.2.1.flag
        have kB := fun n => bad_any (H3.out.1.drewN n)
        have kL := fun n => left_any (H3.out.1.drewN n)
        have kM := fun n => sleft (H3.out.2.1.drewN n)
        generalize l3.length = n3 at kL kM
        go_wp2_with fail
        go_quiet (first
          | exact Calls.quiet_of_same (kB _)
          | exact Calls.quiet_of_same (kL _)
          | exact Calls.quiet_of_same (kM _))
        go_wp2_with fail
        go_roundg (gk - 1)
        case measure => have := HI.out; omega
        case rel =>
          have := HI.out
          exact ⟨i + 1, l3, bad3, by omega, by go_num, H3.out.drewN _⟩
      · go_wp2_with fail
        refine (float_any H2.out.1).mono ?_
        rintro e w1 ⟨rfl, he1, ho1⟩
        have kb := fun w => bits_any w (eFlt l).1
        go_wp2_with fail
        refine (sflt (H2.out.mid ho1)).mono ?_
        rintro e w2 ⟨rfl, hs2, ho2⟩
        have H3 := hid (H2.out.step he1 ho1 hs2 ho2)
        clear he1 ho1 hs2 ho2 H2 hc
        generalize (eFlt l).1 = y at kb ⊢
        generalize (eFlt l).2.1 = l3 at H3
        generalize (bad || (eFlt l).2.2) = bad3 at H3
        have hfl := H3.out.2.1.flag
        have kB := fun n => bad_any (H3.out.1.drewN n)
        have kL := fun n => left_any (H3.out.1.drewN n)
        have kM := fun n => sleft (H3.out.2.1.drewN n)
        generalize l3.length = n3 at kL kM
        go_wp2_with fail
        go_quiet (first
          | exact Calls.quiet_of_same (kB _)
          | exact Calls.quiet_of_same (kL _)
          | exact Calls.quiet_of_same (kM _))
        go_wp2_with fail
        go_roundg (gk - 1)
        case measure => have := HI.out; omega
        case rel =>
          have := HI.out
          exact ⟨i + 1, l3, bad3, by omega, by go_num, H3.out.drewN _⟩
      · go_wp2_with fail
        refine (text_any H2.out.1).mono ?_
        rintro e w1 ⟨rfl, he1, ho1⟩
        obtain ⟨y, hy⟩ : ∃ y, strOf (eText l).1 = y := ⟨_, rfl⟩
        rw [hy]
        go_wp2_with fail
        refine (stext (H2.out.mid ho1)).mono ?_
        rintro e w2 ⟨rfl, hs2, ho2⟩
        have H3 := hid (H2.out.step he1 ho1 hs2 ho2)
        clear he1 ho1 hs2 ho2 H2 hc
        rw [hy]
        clear hy
        generalize (eText l).2.1 = l3 at H3
        generalize (bad || (eText l).2.2) = bad3 at H3
        have hfl := H3.out.2.1.flag
        have kB := fun n => bad_any (H3.out.1.drewN n)
        have kL := fun n => left_any (H3.out.1.drewN n)
        have kM := fun n => sleft (H3.out.2.1.drewN n)
        generalize l3.length = n3 at kL kM
        go_wp2_with fail
        go_quiet (first
          | exact Calls.quiet_of_same (kB _)
          | exact Calls.quiet_of_same (kL _)
          | exact Calls.quiet_of_same (kM _))
        go_wp2_with fail
        go_roundg (gk - 1)
        case measure => have := HI.out; omega
        case rel =>
          have := HI.out
          exact ⟨i + 1, l3, bad3, by omega, by go_num, H3.out.drewN _⟩
    · have i1 : ¬ (i : Int) < (n2 : Int) := by omega
      go_wp2_with fail
      go_ret
      exact ⟨rfl, H2.out.2.2.1⟩
set_option linter.unusedVariables false
theorem penReads_all (a0 : Option Addr) (len0 cap0 : Nat) (z0 : List Int) (a1 : Option Addr) (len1 cap1 : Nat) (z1 : List Int) (w : World) (w0 : IsRow .u8 w a0 len0 cap0 z0) (w1 : IsRow .u8 w a1 len1 cap1 z1) :
    Calls Try.prog 4 #[.slice a0 len0 cap0, .slice a1 len1 cap1] w fun e w' => e = .returned (.bool true) ∧ Below w.heap.size w w' := by
  obtain ⟨lb, hlb, hr1, hc1, hm1⟩ := bytes_of w0
  obtain ⟨la, hla, hr2, hc2, hm2⟩ := bytes_of w1
  by_cases h : 3000 < len0 ∨ 100 < len1
  · exact penReads_long a0 a1 len0 cap0 len1 cap1 w h
  · exact penReads_walk a0 a1 lb la len0 cap0 len1 cap1 w hlb hla (by omega) (by omega) hr1 hr2 hc1 hm1

set_option maxRecDepth 100000 in
theorem penReads_lifted (os : Os) (started : os.Started) (H : Type) (enc : TypeId × Value → H) :
    ReturnsInHanded {} Try.checked os 4 .any (Rows.penReadsSpec.pre6 enc Try.prog Try.f4 Rows.penReadsRow.domain false) (Rows.penReadsSpec.post enc Try.prog Try.f4 false true false false) := by
  refine returnsInHanded_of_change (C := Try.checked) own started (by kernel_rfl) Try.func4
    (ChangeSpec.witness6 (enc := enc) (C := Try.checked) false ⟨#[], #[.slice none 0 0, .slice none 0 0], []⟩ 8 (by kernel_rfl) (by kernel_rfl) (by kernel_rfl) (by kernel_rfl)) ?_
  intro W base args ds gs before hval0 hW hcnd _
  have hval : ∀ (j : Nat) t v, Try.f4.params[j]? = some t → args[j]? = some v → Value.okWide Try.prog W .any base t v := hval0
  have hW' := hW
  obtain ⟨p, q, hA0, hV, rfl, hfz, hnd⟩ := hW
  have hA : DataW.TrodAll enc Try.prog W 0 (fun _ => true) true Try.f4.params.toList args.toList ds p := hA0
  rw [Try.params4] at hA hval
  obtain ⟨v0, vs0, d0, ds0, p0, q0, hargs, rfl, rfl, h0, r0⟩ := trodAll_cons hA
  obtain ⟨v1, vs1, d1, ds1, p1, q1, rfl, rfl, rfl, h1, r1⟩ := trodAll_cons r0
  obtain ⟨rfl, rfl, rfl⟩ := trodAll_nil r1
  obtain rfl : args = #[v0, v1] := by cases args; simp_all
  obtain ⟨rfl, rfl⟩ := trodVars_none hV
  obtain ⟨a0, len0, cap0, rfl⟩ := okWide_slice Try.underlying25 (hval 0 25 v0 rfl rfl)
  have k0 := h0
  have lt0 : ∀ x ∈ p0, x.block < W.heap.size := by obtain ⟨m, hm⟩ := k0; exact DataW.trod_lt m _ _ _ hm
  obtain ⟨z0, w0⟩ : ∃ zs, IsRow .u8 W a0 len0 cap0 zs := by
    obtain ⟨fuel, hf⟩ := h0
    rcases open_ints Try.underlying25 Try.underlying5 (by kernel_rfl) hf with ⟨hcs, _⟩ | ⟨x, l, c, zs, hcs, _, hl, hm, hz, _, hcell, hwz⟩
    · simp [Value.cells] at hcs
      obtain ⟨rfl, rfl, rfl⟩ := hcs
      exact ⟨[], .inl ⟨rfl, rfl, rfl, rfl⟩⟩
    · simp [Value.cells] at hcs
      obtain ⟨rfl, rfl, rfl⟩ := hcs
      exact ⟨zs, .inr ⟨_, rfl, hl, hm, by simpa using hz, hcell, hwz⟩⟩
  obtain ⟨a1, len1, cap1, rfl⟩ := okWide_slice Try.underlying25 (hval 1 25 v1 rfl rfl)
  have k1 := h1
  have lt1 : ∀ x ∈ p1, x.block < W.heap.size := by obtain ⟨m, hm⟩ := k1; exact DataW.trod_lt m _ _ _ hm
  obtain ⟨z1, w1⟩ : ∃ zs, IsRow .u8 W a1 len1 cap1 zs := by
    obtain ⟨fuel, hf⟩ := h1
    rcases open_ints Try.underlying25 Try.underlying5 (by kernel_rfl) hf with ⟨hcs, _⟩ | ⟨x, l, c, zs, hcs, _, hl, hm, hz, _, hcell, hwz⟩
    · simp [Value.cells] at hcs
      obtain ⟨rfl, rfl, rfl⟩ := hcs
      exact ⟨[], .inl ⟨rfl, rfl, rfl, rfl⟩⟩
    · simp [Value.cells] at hcs
      obtain ⟨rfl, rfl, rfl⟩ := hcs
      exact ⟨zs, .inr ⟨_, rfl, hl, hm, by simpa using hz, hcell, hwz⟩⟩
  clear hA0 hval0
  refine (penReads_all a0 len0 cap0 z0 a1 len1 cap1 z1 W w0 w1).mono fun e W' ⟨he, bel⟩ => ?_
  subst he
  exact ⟨_, rfl, _, _, _, [], _, [], hW', trodAll_mk1 (shut_bool Try.underlying4 _), (trodAll_cons_mk (Below.trod laidOut (by kernel_rfl) (of_decide_eq_true (by kernel_rfl)) k0 bel lt0) (trodAll_cons_mk (Below.trod laidOut (by kernel_rfl) (of_decide_eq_true (by kernel_rfl)) k1 bel lt1) trodAll_mk0)), rfl, bel.frame _, fun h => by cases h⟩

theorem penReads_over : Rows.penReadsRow.holds Try.pinned (OpenSpec.ofChange Rows.penReadsSpec) :=
  OpenClaim.holds_of_wide 4 Try.f4 rfl rfl rfl rfl rfl rfl rfl ⟨rfl, rfl, rfl, rfl, rfl⟩ rfl rfl rfl rfl rfl (by kernel_rfl) Try.func4 (by kernel_rfl)
    (of_decide_eq_true (by kernel_rfl)) (by unfold Func.isWrapper; first | (rw [if_pos (by decide +kernel)]; kernel_rfl) | (rw [if_neg (by decide +kernel)]; exact ⟨rfl, rfl⟩))
    (fun os started H enc _ => penReads_lifted os started H enc)

theorem penReads_holds : Rows.PenReadsSaid := penReads_over
#print axioms penReads_holds
end Go.Proofs.Ytpeecmfchnlmlaa
