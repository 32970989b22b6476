/- ChunkRecords, as it is walked: any number, any bytes: their record; parsed they are the same. No condition. -/
import Derived.Test.YtenjhmlgimnnoaaInv
import Derived.Deep.RegionHeldLaw
namespace Go.Proofs.Ytenjhmlgimnnoaa
open Go.ChangeShapes Go.WideShapes Go.ChangeAt Go.RowKit Pen
set_option maxRecDepth 4000
set_option linter.unusedVariables false
attribute [local go_sem ↓] Go.wp_at_zero Go.wp_at_succ
/-- Bytes of the call's own that were just made, none. -/
theorem own_new (w : World) : Mine w.heap.size (w.alloc (.cells #[] 5)) w.heap.size 0 0 [] := mine_empty w
/-- An append onto bytes that are none, and have no room: new ones. -/
theorem Mine.first {base : Nat} {w : World} {g : Nat} (h : Mine base w g 0 0 []) (ty : TypeId) (a : Option Addr) (l : List Nat) (n c : Nat) (hn : l.length = n) (hr : Row w a l) (hne : l ≠ []) (hsz : n ≤ 1000000) :
    ∃ g' cap' w', (Builtin.append_ #[27, 27] ty #[.slice (some ⟨g, 0, none⟩) 0 0, .slice a n c]).run Try.prog w = .ok (.slice (some ⟨g', 0, none⟩) n cap') w' ∧ Mine w.heap.size w' g' n cap' l ∧ Below w.heap.size w w' := by
  subst hn
  obtain ⟨i5, hi5, hz5, hs5, hy5⟩ := info5'
  rcases hr.2 with h0 | ⟨b, off, rfl, _, hc⟩
  · exact absurd h0 hne
  · have h0 : 0 < l.length := List.length_pos_iff.2 hne
    have hrun := run_append_grow (P := Try.prog) w 27 ty 5 i5 (.int .u8 0) Try.underlying27 hi5 hz5 ⟨g, 0, none⟩ 0 0 [] (by simp) (by simp) ⟨b, off, none⟩ l.length c (vals l) (by rw [vals_len, hs5]; omega) (news_of hc) (by omega) (by omega) (growslice_fits (by omega) (by rw [hy5]; omega))
    rw [Nat.zero_add] at hrun
    have hge := grownCap_ge w l.length 0 5
    have hcm : grownCap w l.length 0 5 ≤ maxLen := grownCap_le_maxLen w l.length 0 5 (by unfold maxLen; omega)
    refine ⟨w.heap.size, _, _, hrun, ⟨rfl, hr.1, ?_⟩, (Below.refl _ w).drew.alloc (Nat.le_refl _) _⟩
    refine ⟨by rw [vals_len]; omega, .inr ⟨w.heap.size, _, _, rfl, Nat.le_refl _, heap_alloc_new w.drew _, hge, hcm, ?_, ?_⟩⟩
    · simp only [Array.size_append, List.size_toArray, List.length_nil, size_zeroCells, vals_len]
      have : (Value.int IntKind.u8 0).cells.size = 1 := rfl
      rw [this]
      omega
    · simp only [Array.toList_append, List.nil_append]
      rw [Nat.mul_one, ← vals_len l]
      exact List.take_left
set_option maxHeartbeats 400000 in
theorem rec_walk {w : World} (z : Int) (hz : (Lit.int .i64 z).wf = true) (a : Option Addr) (l : List Nat) (m cap : Nat) (hm : l.length = m) (hr : Row w a l) (a2 : Option Addr) (l2 : List Nat) (m2 cap2 : Nat) (hm2 : l2.length = m2) (hr2 : Row w a2 l2) (hmx : m ≤ maxLen) (hmx2 : m2 ≤ maxLen) :
    Calls Try.prog 4 #[.int .i64 z, .slice a m cap, .slice a2 m2 cap2] w fun e w' => e = .returned (.bool true) ∧ Below w.heap.size w w' := by
  have hbz := bounds_i64 hz
  by_cases h1 : 500 < m
  · have g1 : (500 : Int) < (m : Int) := by omega
    clear hm hr hm2 hr2
    go_enter Try.func4, Try.ntmps4
    go_wp2_with fail
    refine (awake_any w).mono ?_
    rintro e w1 ⟨rfl, hb1⟩
    have HB1 := hid hb1
    clear hb1
    go_wp2_with fail
    go_ret
    exact ⟨rfl, HB1.out⟩
  by_cases h2 : 500 < m2
  · have g1 : ¬ (500 : Int) < (m : Int) := by omega
    have g2 : (500 : Int) < (m2 : Int) := by omega
    clear hm hr hm2 hr2
    go_enter Try.func4, Try.ntmps4
    go_wp2_with fail
    refine (awake_any w).mono ?_
    rintro e w1 ⟨rfl, hb1⟩
    have HB1 := hid hb1
    clear hb1
    go_wp2_with fail
    go_ret
    exact ⟨rfl, HB1.out⟩
  have g1 : ¬ (500 : Int) < (m : Int) := by omega
  have g2 : ¬ (500 : Int) < (m2 : Int) := by omega
  have HM := hid hm
  have HM2 := hid hm2
  have HR := hid hr
  have HR2 := hid hr2
  clear hm hr hm2 hr2
  go_enter Try.func4, Try.ntmps4
  go_wp2_with fail
  refine (awake_any w).mono ?_
  rintro e w1 ⟨rfl, hb1⟩
  have HB1 := hid hb1
  clear hb1
  go_wp2_with fail
  refine (record_any w1 z (by omega) a l m cap HM.out (HR.out.below HB1.out) (by omega)).mono ?_
  rintro e w2 ⟨g, c2, rfl, ho2, hb2⟩
  have HB2 := hid (HB1.out.trans (hb2.mono HB1.out.size))
  obtain ⟨L, hL⟩ : ∃ L, num z.toNat ++ text l = L := ⟨_, rfl⟩
  have HL := hid hL
  obtain ⟨T, hT⟩ : ∃ T, text l = T := ⟨_, rfl⟩
  obtain ⟨M, hM⟩ : ∃ M, num z.toNat = M := ⟨_, rfl⟩
  have HT := hid hT
  have HMM := hid hM
  rw [hL] at ho2 ⊢
  have HO2 := hid ho2
  have hLlen : L.length ≤ 600 := by
    have e1 := num_len10 z.toNat (by omega)
    have e2 := num_len10 l.length (by have := HM.out; omega)
    have := HM.out
    rw [← hL, List.length_append, text, List.length_append]
    omega
  obtain ⟨k, hk⟩ : ∃ k, L.length = k := ⟨_, rfl⟩
  have HK := hid hk
  rw [hk] at hLlen ⊢
  clear ho2 hb2 hL hT hM hk
  have hcv := str_at' (cap := cap) (HR.out.below HB2.out) HM.out
  have HCV : Hid (∀ W, Below w2.heap.size w2 W → (convert 27 9 (.slice a m cap)).run Try.prog W = .ok (.string (strOf l)) W) := hcv
  have hz2 : Below w2.heap.size w2 w2 := Below.refl _ _
  have hz3 := hz2.drew
  go_wp2_with fail
  have hn10 := num_len10 z.toNat (by omega)
  have hOA : Mine w2.heap.size (w2.alloc (.cells #[] 5)).drew w2.heap.size 0 0 [] := own_new w2
  have hzA : Below w2.heap.size w2 (w2.alloc (.cells #[] 5)).drew := Below.drew (Below.alloc hz2 hz2.size _)
  have HML : Hid (∀ x ∈ M, x < 256) := by rw [← HMM.out]; exact num_lt _
  have HMN : Hid (M ≠ []) := by rw [← HMM.out]; exact num_ne _
  have HTL : Hid (∀ x ∈ T, x < 256) := by rw [← HT.out]; exact text_lt l HR.out.1
  have hT600 : T.length ≤ 600 := by
    have e2 := num_len10 l.length (by have := HM.out; omega)
    have := HM.out
    rw [← HT.out, text, List.length_append]
    omega
  have hk18 := fun W => Pen.rnum_any W z (by omega)
  have hk19 := fun W => Pen.rtext_any W (strOf l) (by rw [strOf_size, HM.out]; omega)
  rw [HMM.out] at hk18 hn10
  rw [lst_strOf l HR.out.1, HT.out] at hk19
  unfold Pen.Hands at hk18 hk19
  obtain ⟨kM, hkM'⟩ : ∃ kM, M.length = kM := ⟨_, rfl⟩
  obtain ⟨kT, hkT'⟩ : ∃ kT, T.length = kT := ⟨_, rfl⟩
  rw [hkM'] at hk18 hn10
  rw [hkT'] at hk19 hT600
  have HKM := hid hkM'
  have HKT := hid hkT'
  have K18 := hid hk18
  have K19 := hid hk19
  have hkM : kM ≤ 1000000 := by omega
  clear hkM' hkT' hk18 hk19
  go_region_held_law (fun W => Below w2.heap.size w2 W) (first | assumption | exact Below.drew (Below.alloc hz2 hz2.size _) | exact Below.alloc (by assumption) (Below.size (by assumption)) _) (first | (go_at_call 18; refine (K18.out _).mono ?_; rintro e w3 ⟨g3, c3, rfl, ho3, hb3⟩; have hz3b : Below w2.heap.size w2 w3 := hzA.trans (hb3.mono hzA.size); have hrow3 := row_of_owns' HKM.out ho3 HML.out; obtain ⟨g5, c5, w5, hrun5, hmine5, hb5⟩ := Mine.first (hOA.below hb3) 27 _ _ kM c3 HKM.out hrow3.2 HMN.out hkM; have hz5 := hz3b.trans (hb5.mono hz3b.size); have HRUN5 := hid hrun5; have tok5 : True := trivial; have HMI5 := hid (hmine5.low hz3b.size); clear hrun5 hmine5 ho3 hb3 hrow3 hb5) | (go_at_call 18; refine (K18.out _).mono ?_; rintro e w3 ⟨g3, c3, rfl, ho3, hb3⟩; have hz3b : Below w2.heap.size w2 w3 := hz3.trans (hb3.mono hz3.size); have hrow3 := row_of_owns' HKM.out ho3 HML.out; have hal := (Below.refl _ w3).alloc (Nat.le_refl _) (.cells #[] 5); obtain ⟨g5, c5, w5, hrun5, hmine5, hb5⟩ := Mine.first (own_new w3) 27 _ _ kM c3 HKM.out (hrow3.2.below hal) HMN.out hkM; have hz5 := (hz3b.trans (hal.mono hz3b.size)).trans (hb5.mono (Nat.le_trans hz3b.size hal.size)); have HRUN5 := hid hrun5; have tok5 : True := trivial; have HMI5 := hid (hmine5.low (Nat.le_trans hz3b.size hal.size)); clear hrun5 hmine5 ho3 hb3 hrow3 hb5) | (go_at_call 19; refine (K19.out _).mono ?_; rintro e w4 ⟨g4, c4, rfl, ho4, hb4⟩; have hz4 := hz5.trans (hb4.mono hz5.size); have hrow4 := row_of_owns' HKT.out ho4 HTL.out; obtain ⟨g6, c6, w6, hrun6, hmine6, hb6⟩ := (HMI5.out.below hb4).app 27 _ _ kT c4 HKT.out hrow4.2 (kM + kT) rfl (by omega) hz4.size; have hz6 := hz4.trans hb6; have HRUN6 := hid hrun6; have tok6 : True := trivial; have HMI6 := hid hmine6; clear hrun6 hmine6 ho4 hb4 hrow4 hb6) | (have _t := tok5; refine step_app3 27 rfl _ _ rfl _ _ rfl rfl _ w5 HRUN5.out 31 rfl ?_; clear tok5) | (have _t := tok6; refine step_app3 27 rfl _ _ rfl _ _ rfl rfl _ w6 HRUN6.out 35 rfl ?_; clear tok6))
  all_goals
    have HB6 := hid (HB2.out.trans (hz6.mono HB2.out.size))
    have hmt : M ++ T = L := by rw [← HMM.out, ← HT.out]; exact HL.out
    have hrow6 := HMI6.out.row.2
    rw [hmt] at hrow6
    have hown6 := owns_keep HO2.out fun k cur _ _ hk => (hz6.block k (lt_of_some hk)).trans hk
    have hLlt : ∀ x ∈ L, x < 256 := hrow6.1
    rw [HK.out] at hown6
    have hrowL := (row_of_owns' HK.out hown6 hLlt).2
    have hkk : kM + kT = k := by rw [← HK.out, ← hmt, List.length_append, HKM.out, HKT.out]
    have hcA := str_any w6 _ L k c2 HK.out hrowL
    have hcB := str_any w6 _ L (kM + kT) c6 (by rw [hkk]; exact HK.out) hrow6
    have HROWL := hid hrowL
    have HRl := hid (HR.out.below HB6.out)
    have HRl2 := hid (HR2.out.below HB6.out)
    clear hz2 hz3 hOA hzA hz6 hrow6 hown6 hrowL hmt hkk hn10
    try clear hz3b
    try clear hz5
    try clear hz4
    try clear HRUN5
    try clear HRUN6
    try clear HMI5
    try clear HMI6
    obtain ⟨SL, hSL⟩ : ∃ SL, strOf L = SL := ⟨_, rfl⟩
    rw [hSL] at hcA hcB
    clear hSL
    go_wp2_with fail
    refine (parse_any w6 _ L k c2 HK.out HROWL.out).mono ?_
    rintro e w7 ⟨hpd, hb7⟩
    have HB7 := hid (HB6.out.trans (hb7.mono HB6.out.size))
    have HRw := hid (HRl.out.below hb7)
    have HRw2 := hid (HRl2.out.below hb7)
    clear hb7 hcA hcB
    have kraw := fun W (hW : Below w7.heap.size w7 W) => parse_any W a2 l2 m2 cap2 HM2.out (HRw2.out.below hW)
    have KRAW := hid kraw
    clear kraw
    have kfin : ∀ (n2 : Nat) (b2 : List Nat), parse l2 = some (n2, b2) → num n2 ++ text b2 = l2 ∧ n2 ≤ 4611686018427387904 := fun n2 b2 h => parse_inv HR2.out.1 h
    have KFIN := hid kfin
    clear kfin
    cases hp : parse L with
    | none =>
      rw [hp] at hpd
      have hpe : e = _ := hpd
      subst hpe
      have hz62 : ¬ z ≤ 4611686018427387904 := by
        intro hle
        have h9 := parse_rec z.toNat l (by omega) (by have := HM.out; omega)
        rw [HL.out, hp] at h9
        cases h9
      clear hp
      go_wp2_with fail
      refine (KRAW.out _ (Below.refl _ _)).mono ?_
      rintro e w8 ⟨hpd8, hb8⟩
      have HB8 := hid (HB7.out.trans (hb8.mono HB7.out.size))
      have HRr := hid (HRw2.out.below hb8)
      clear hb8
      cases hp2 : parse l2 with
      | none =>
        rw [hp2] at hpd8
        have hpe : e = _ := hpd8
        subst hpe
        clear hp2
        go_wp2_with fail
        go_ret
        exact ⟨rfl, HB8.out⟩
      | some nb2 =>
        obtain ⟨n2, b2⟩ := nb2
        rw [hp2] at hpd8
        obtain ⟨a4, c4', rfl, hbr2⟩ := hpd8
        obtain ⟨hi1, hi2⟩ := KFIN.out n2 b2 hp2
        have hb2l : b2.length ≤ 500 := by
          have e9 := congrArg List.length hi1
          rw [List.length_append, text, List.length_append, HM2.out] at e9
          omega
        have HBR2 := hid hbr2.1
        obtain ⟨kb, hkb⟩ : ∃ kb, b2.length = kb := ⟨_, rfl⟩
        have HKB := hid hkb
        have krec : ∀ W, Below w8.heap.size w8 W → _ := fun W (hW : Below w8.heap.size w8 W) => record_any W (n2 : Int) (by omega) a4 b2 kb c4' hkb (HBR2.out.below hW) (by omega)
        rw [Int.toNat_natCast, hi1, HM2.out] at krec
        have KREC : Hid (∀ W, Below w8.heap.size w8 W → Calls Try.prog 17 #[.int .i64 (n2 : Int), .slice a4 kb c4'] W fun e w' => ∃ g cap', e = .returned (.slice (some ⟨g, 0, none⟩) m2 cap') ∧ (convert 27 9 (.slice (some ⟨g, 0, none⟩) m2 cap')).run Try.prog w' = .ok (.string (strOf l2)) w' ∧ Below w8.heap.size w8 w') := fun W hW => by
          refine (krec W hW).mono ?_
          rintro e w' ⟨g', cap', h1, h2, h3⟩
          exact ⟨g', cap', h1, str_any w' _ l2 m2 cap' HM2.out (row_of_owns' HM2.out h2 HR2.out.1).2, hW.trans (h3.mono hW.size)⟩
        have hcr : ∀ W, Below w8.heap.size w8 W → (convert 27 9 (.slice a2 m2 cap2)).run Try.prog W = .ok (.string (strOf l2)) W := str_at' HRr.out HM2.out
        rw [hkb]
        obtain ⟨S2, hS2⟩ : ∃ S2, strOf l2 = S2 := ⟨_, rfl⟩
        rw [hS2] at KREC hcr
        have hz8 := (Below.refl w8.heap.size w8).drew
        clear hi1 hp2 krec hkb hS2 hbr2
        go_wp2_with fail
        go_region_held (fun W => Below w8.heap.size w8 W) (first | assumption) (first | (go_at_call 17; refine (KREC.out _ (by assumption)).mono ?_; rintro e w9 ⟨g9, c9, rfl, hc9, hb9⟩))
        go_wp2_with fail
        go_ret
        exact ⟨rfl, HB8.out.trans (hb9.mono HB8.out.size)⟩
    | some nb =>
      obtain ⟨n1, b1⟩ := nb
      rw [hp] at hpd
      obtain ⟨a3, c3', rfl, hbr⟩ := hpd
      by_cases hz62 : z ≤ 4611686018427387904
      · have h9 := parse_rec z.toNat l (by omega) (by have := HM.out; omega)
        rw [HL.out, hp] at h9
        simp only [Option.some.injEq, Prod.mk.injEq] at h9
        obtain ⟨e1, e2⟩ := h9
        have e2' : l = b1 := e2.symm
        subst e2'
        rw [HM.out]
        have hx := str_any w7 a3 l m c3' HM.out hbr.1
        have hy := str_any w7 a l m cap HM.out HRw.out
        obtain ⟨Sl, hSl⟩ : ∃ Sl, strOf l = Sl := ⟨_, rfl⟩
        rw [hSl] at hx hy
        obtain ⟨zn, hzn⟩ : ∃ zn : Int, (n1 : Int) = zn := ⟨_, rfl⟩
        have gm1 : (if (0 : Int) < z then z else 0) = zn := by split <;> omega
        have gm2 : (if z < (0 : Int) then 0 else z) = zn := by split <;> omega
        rw [hzn]
        clear hSl hzn e1 e2 hp hbr
        go_wp2_with fail
        refine (KRAW.out _ (Below.refl _ _)).mono ?_
        rintro e w8 ⟨hpd8, hb8⟩
        have HB8 := hid (HB7.out.trans (hb8.mono HB7.out.size))
        have HRr := hid (HRw2.out.below hb8)
        clear hb8
        cases hp2 : parse l2 with
        | none =>
          rw [hp2] at hpd8
          have hpe : e = _ := hpd8
          subst hpe
          clear hp2
          go_wp2_with fail
          go_ret
          exact ⟨rfl, HB8.out⟩
        | some nb2 =>
          obtain ⟨n2, b2⟩ := nb2
          rw [hp2] at hpd8
          obtain ⟨a4, c4', rfl, hbr2⟩ := hpd8
          obtain ⟨hi1, hi2⟩ := KFIN.out n2 b2 hp2
          have hb2l : b2.length ≤ 500 := by
            have e9 := congrArg List.length hi1
            rw [List.length_append, text, List.length_append, HM2.out] at e9
            omega
          have HBR2 := hid hbr2.1
          obtain ⟨kb, hkb⟩ : ∃ kb, b2.length = kb := ⟨_, rfl⟩
          have HKB := hid hkb
          have krec : ∀ W, Below w8.heap.size w8 W → _ := fun W (hW : Below w8.heap.size w8 W) => record_any W (n2 : Int) (by omega) a4 b2 kb c4' hkb (HBR2.out.below hW) (by omega)
          rw [Int.toNat_natCast, hi1, HM2.out] at krec
          have KREC : Hid (∀ W, Below w8.heap.size w8 W → Calls Try.prog 17 #[.int .i64 (n2 : Int), .slice a4 kb c4'] W fun e w' => ∃ g cap', e = .returned (.slice (some ⟨g, 0, none⟩) m2 cap') ∧ (convert 27 9 (.slice (some ⟨g, 0, none⟩) m2 cap')).run Try.prog w' = .ok (.string (strOf l2)) w' ∧ Below w8.heap.size w8 w') := fun W hW => by
            refine (krec W hW).mono ?_
            rintro e w' ⟨g', cap', h1, h2, h3⟩
            exact ⟨g', cap', h1, str_any w' _ l2 m2 cap' HM2.out (row_of_owns' HM2.out h2 HR2.out.1).2, hW.trans (h3.mono hW.size)⟩
          have hcr : ∀ W, Below w8.heap.size w8 W → (convert 27 9 (.slice a2 m2 cap2)).run Try.prog W = .ok (.string (strOf l2)) W := str_at' HRr.out HM2.out
          rw [hkb]
          obtain ⟨S2, hS2⟩ : ∃ S2, strOf l2 = S2 := ⟨_, rfl⟩
          rw [hS2] at KREC hcr
          have hz8 := (Below.refl w8.heap.size w8).drew
          clear hi1 hp2 krec hkb hS2 hbr2
          go_wp2_with fail
          go_region_held (fun W => Below w8.heap.size w8 W) (first | assumption) (first | (go_at_call 17; refine (KREC.out _ (by assumption)).mono ?_; rintro e w9 ⟨g9, c9, rfl, hc9, hb9⟩))
          go_wp2_with fail
          go_ret
          exact ⟨rfl, HB8.out.trans (hb9.mono HB8.out.size)⟩
      · clear hp hbr
        go_wp2_with fail
        refine (KRAW.out _ (Below.refl _ _)).mono ?_
        rintro e w8 ⟨hpd8, hb8⟩
        have HB8 := hid (HB7.out.trans (hb8.mono HB7.out.size))
        have HRr := hid (HRw2.out.below hb8)
        clear hb8
        cases hp2 : parse l2 with
        | none =>
          rw [hp2] at hpd8
          have hpe : e = _ := hpd8
          subst hpe
          clear hp2
          go_wp2_with fail
          go_ret
          exact ⟨rfl, HB8.out⟩
        | some nb2 =>
          obtain ⟨n2, b2⟩ := nb2
          rw [hp2] at hpd8
          obtain ⟨a4, c4', rfl, hbr2⟩ := hpd8
          obtain ⟨hi1, hi2⟩ := KFIN.out n2 b2 hp2
          have hb2l : b2.length ≤ 500 := by
            have e9 := congrArg List.length hi1
            rw [List.length_append, text, List.length_append, HM2.out] at e9
            omega
          have HBR2 := hid hbr2.1
          obtain ⟨kb, hkb⟩ : ∃ kb, b2.length = kb := ⟨_, rfl⟩
          have HKB := hid hkb
          have krec : ∀ W, Below w8.heap.size w8 W → _ := fun W (hW : Below w8.heap.size w8 W) => record_any W (n2 : Int) (by omega) a4 b2 kb c4' hkb (HBR2.out.below hW) (by omega)
          rw [Int.toNat_natCast, hi1, HM2.out] at krec
          have KREC : Hid (∀ W, Below w8.heap.size w8 W → Calls Try.prog 17 #[.int .i64 (n2 : Int), .slice a4 kb c4'] W fun e w' => ∃ g cap', e = .returned (.slice (some ⟨g, 0, none⟩) m2 cap') ∧ (convert 27 9 (.slice (some ⟨g, 0, none⟩) m2 cap')).run Try.prog w' = .ok (.string (strOf l2)) w' ∧ Below w8.heap.size w8 w') := fun W hW => by
            refine (krec W hW).mono ?_
            rintro e w' ⟨g', cap', h1, h2, h3⟩
            exact ⟨g', cap', h1, str_any w' _ l2 m2 cap' HM2.out (row_of_owns' HM2.out h2 HR2.out.1).2, hW.trans (h3.mono hW.size)⟩
          have hcr : ∀ W, Below w8.heap.size w8 W → (convert 27 9 (.slice a2 m2 cap2)).run Try.prog W = .ok (.string (strOf l2)) W := str_at' HRr.out HM2.out
          rw [hkb]
          obtain ⟨S2, hS2⟩ : ∃ S2, strOf l2 = S2 := ⟨_, rfl⟩
          rw [hS2] at KREC hcr
          have hz8 := (Below.refl w8.heap.size w8).drew
          clear hi1 hp2 krec hkb hS2 hbr2
          go_wp2_with fail
          go_region_held (fun W => Below w8.heap.size w8 W) (first | assumption) (first | (go_at_call 17; refine (KREC.out _ (by assumption)).mono ?_; rintro e w9 ⟨g9, c9, rfl, hc9, hb9⟩))
          go_wp2_with fail
          go_ret
          exact ⟨rfl, HB8.out.trans (hb9.mono HB8.out.size)⟩
end Go.Proofs.Ytenjhmlgimnnoaa
