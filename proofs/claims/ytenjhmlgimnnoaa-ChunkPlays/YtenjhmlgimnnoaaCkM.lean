/- What Set and Get of a store do. Condition: numbers below nine million million million. -/
import Derived.Test.YtenjhmlgimnnoaaCkL
namespace Go.Proofs.Ytenjhmlgimnnoaa
open Go.ChangeShapes Go.WideShapes Go.ChangeAt Go.RowKit
open Go.Maps (keyOf_int_mk)
set_option maxRecDepth 4000
set_option linter.unusedVariables false
attribute [local go_sem ↓] Go.wp_at_zero Go.wp_at_succ
theorem set_arg {s : St} {a : Int} {l : List Nat} (h : ¬ (1 ≤ a ∧ a ≤ 4611686018427387904 ∧ 1 ≤ l.length ∧ l.length ≤ 64)) : set s a l = (1, s) := by
  unfold set
  rw [if_neg h]
theorem set_there {s : St} {a : Int} {l : List Nat} (h : 1 ≤ a ∧ a ≤ 4611686018427387904 ∧ 1 ≤ l.length ∧ l.length ≤ 64) (ht : byId s.ps a ≠ none ∨ byText s.ps l ≠ none) : set s a l = (5, s) := by
  unfold set
  rw [if_pos h, if_pos ht]
theorem set_ok {s : St} {a : Int} {l : List Nat} (h : 1 ≤ a ∧ a ≤ 4611686018427387904 ∧ 1 ≤ l.length ∧ l.length ≤ 64) (h1 : byId s.ps a = none) (h2 : byText s.ps l = none) : set s a l = (0, ⟨s.ps ++ [(a.toNat, l)], max s.last a.toNat⟩) := by
  unfold set
  rw [if_pos h, if_neg (by simp [h1, h2])]
set_option maxHeartbeats 400000 in
theorem set_any {base : Nat} {w : World} {q n : Nat} {s : St} (h : CkAt base w q n s) (z : Int) (hw : (Lit.int .i64 z).wf = true) (a : Option Addr) (l : List Nat) (m cap : Nat) (hm : l.length = m) (hr : Row w a l) (hn : n ≤ 999999) (hls : s.last < 9000000000000000000) (hb0 : base ≤ w.heap.size) :
    Calls Try.prog 11 #[.pointer (some ⟨q, 0, none⟩), .int .i64 z, .slice a m cap] w fun e w' => e = .returned (.int .i64 (((set s z l).1 : Nat) : Int)) ∧ CkAt base w' q (n + 2) (set s z l).2 ∧ Chg q base w w' := by
  have H := hid h
  have HM := hid hm
  have HR := hid hr
  have HB := hid hb0
  have hmay := fun w : World => may_any (w := w) a m cap
  have HMY := hid hmay
  clear hmay
  by_cases h1 : 1 ≤ z
  · have g1 : ¬ z < 1 := by omega
    by_cases h2 : z ≤ 4611686018427387904
    · have g2 : ¬ 4611686018427387904 < z := by omega
      by_cases hl : 1 ≤ m ∧ m ≤ 64
      · have e : decide (1 ≤ m ∧ m ≤ 64) = true := by simp [hl]
        rw [e] at HMY
        have hall : 1 ≤ z ∧ z ≤ 4611686018427387904 ∧ 1 ≤ l.length ∧ l.length ≤ 64 := ⟨h1, h2, by omega, by omega⟩
        obtain ⟨P, N, c0, c1, c2, cf, hmp, hq⟩ := h.cells
        obtain ⟨v, hv1, hv2, hlk⟩ := hmp.piece z hw
        have hlk0 := (hlk _ (Below.refl _ _)).1
        have kf := fun w' (hb : Below w.heap.size w w') => find_any (h.below hb) a l m cap hm (hr.below hb) hl.2 (by omega) (by omega)
        have HF := hid kf
        cases hi : byId s.ps z with
        | some b =>
          rw [hi] at hlk0
          rw [set_there hall (.inl (by rw [hi]; simp))]
          simp only [Option.isSome_some] at hlk0
          clear hi kf hm hr hb0 h hlk hv1 hv2 hmp hq c1 c2 cf hall
          go_enter Try.func11, Try.ntmps11
          go_wp2_with fail
          refine (HMY.out _).mono ?_
          rintro e w1 ⟨rfl, rfl⟩
          go_wp2_with fail
          go_ret
          exact ⟨rfl, H.out.mono (by omega), Chg.refl _ _ _⟩
        | none =>
          rw [hi] at hlk0
          simp only [Option.isSome_none] at hlk0
          cases ht : byText s.ps l with
          | some k =>
            rw [ht] at HF
            rw [set_there hall (.inr (by rw [ht]; simp))]
            simp only [Option.getD_some, Option.isSome_some] at HF
            clear hi ht kf hm hr hb0 h hlk hv1 hv2 hmp hq c1 c2 cf hall
            go_enter Try.func11, Try.ntmps11
            go_wp2_with fail
            refine (HMY.out _).mono ?_
            rintro e w1 ⟨rfl, rfl⟩
            go_wp2_with fail
            refine (HF.out _ (Below.refl _ _)).mono ?_
            rintro e w2 ⟨rfl, hb2⟩
            have HB2 := hid hb2
            clear hb2
            go_wp2_with fail
            go_ret
            exact ⟨rfl, (H.out.below HB2.out).mono (by omega), Chg.of_below HB2.out⟩
          | none =>
            rw [ht] at HF
            rw [set_ok hall hi ht]
            simp only [Option.getD_none, Option.isSome_none] at HF
            obtain ⟨ad, rfl⟩ := row_some hr (by omega)
            obtain ⟨id, rfl⟩ : ∃ id : Nat, z = (id : Int) := ⟨z.toNat, by omega⟩
            have HT := hid ht
            have HI := hid hi
            have hid3 : 1 ≤ id := by omega
            have hid2 : id ≤ 9000000000000000000 := by omega
            rw [Int.toNat_natCast]
            clear hi ht kf hm hr hb0 h hlk hv1 hv2 hmp hq c1 c2 cf hall
            go_enter Try.func11, Try.ntmps11
            go_wp2_with fail
            refine (HMY.out _).mono ?_
            rintro e w1 ⟨rfl, rfl⟩
            go_wp2_with fail
            refine (HF.out _ (Below.refl _ _)).mono ?_
            rintro e w2 ⟨rfl, hb2⟩
            have HB2 := hid hb2
            clear hb2
            go_wp2_with fail
            refine (keep_any (H.out.below HB2.out) id hid3 hid2 (by omega) ad l m cap HM.out (HR.out.below HB2.out) hl.1 hl.2 hn HI.out HT.out (Nat.le_trans HB.out HB2.out.size)).mono ?_
            rintro e w4 ⟨rfl, h4, hc4⟩
            have H4 := hid h4
            have HC4 := hid hc4
            clear h4 hc4
            go_wp2_with fail
            go_ret
            exact ⟨rfl, H4.out, (Chg.of_below HB2.out).trans HC4.out⟩
      · have e : decide (1 ≤ m ∧ m ≤ 64) = false := by simp; omega
        rw [e] at HMY
        rw [set_arg (by rw [hm]; omega)]
        clear hm hr hb0 h
        go_enter Try.func11, Try.ntmps11
        go_wp2_with fail
        refine (HMY.out _).mono ?_
        rintro e w1 ⟨rfl, rfl⟩
        go_wp2_with fail
        go_ret
        exact ⟨rfl, H.out.mono (by omega), Chg.refl _ _ _⟩
    · have g2 : 4611686018427387904 < z := by omega
      rw [set_arg (by omega)]
      clear hm hr hb0 h
      go_enter Try.func11, Try.ntmps11
      go_wp2_with fail
      go_ret
      exact ⟨rfl, H.out.mono (by omega), Chg.refl _ _ _⟩
  · have g1 : z < 1 := by omega
    rw [set_arg (by omega)]
    clear hm hr hb0 h
    go_enter Try.func11, Try.ntmps11
    go_wp2_with fail
    go_ret
    exact ⟨rfl, H.out.mono (by omega), Chg.refl _ _ _⟩
/-- What is handed out: a row of the call's own, or nil. -/
def Got (w w' : World) (o : Option (List Nat)) (v : Value) : Prop := match o with
  | none => v = .slice none 0 0
  | some b => ∃ g cap, v = .slice (some ⟨g, 0, none⟩) b.length cap ∧ w'.ownsRow w.heap.size 5 1 v b.length (vals b)
set_option maxHeartbeats 400000 in
theorem get_any {base : Nat} {w : World} {q n : Nat} {s : St} (h : CkAt base w q n s) (z : Int) (hw : (Lit.int .i64 z).wf = true) :
    Calls Try.prog 13 #[.pointer (some ⟨q, 0, none⟩), .int .i64 z] w fun e w' => ∃ v, e = .returned (.tuple #[v, .bool (byId s.ps z).isSome]) ∧ Got w w' (byId s.ps z) v ∧ Below w.heap.size w w' := by
  obtain ⟨P, N, c0, c1, c2, cf, hmp, hq⟩ := h.cells
  obtain ⟨v, hv1, hv2, hlk⟩ := hmp.piece z hw
  have hlk0 := (hlk _ (Below.refl _ _)).1
  cases hi : byId s.ps z with
  | none =>
    rw [hi] at hlk0
    obtain rfl := hv1 hi
    simp only [Option.isSome_none] at hlk0
    clear hi hlk hv1 hv2 hmp hq c1 c2 cf h
    go_enter Try.func13, Try.ntmps13
    go_wp2_with fail
    refine bclone_none.mono ?_
    rintro e w1 ⟨rfl, rfl⟩
    go_wp2_with fail
    go_ret2
    exact ⟨_, rfl, rfl, Below.refl _ _⟩
  | some b =>
    obtain ⟨g, cap, rfl, ho⟩ := hv2 b hi
    obtain ⟨k, rfl, hmem⟩ := byId_some hi
    have hpos := h.ok.pos _ hmem
    have hrow := (row_of_owns' rfl ho hpos.2.2.2.2).2
    have kc := bclone_some (w := w) ⟨g, 0, none⟩ b b.length cap rfl hrow (by intro e; rw [e] at hpos; simp at hpos) (by have : b.length ≤ 64 := hpos.2.2.2.1; omega)
    rw [hi] at hlk0
    simp only [Option.isSome_some] at hlk0
    have HK := hid kc
    clear hi hlk hv1 hv2 hmp hq c1 c2 cf h ho hrow kc hmem
    go_enter Try.func13, Try.ntmps13
    go_wp2_with fail
    refine HK.out.mono ?_
    rintro e w1 ⟨g1, c1, rfl, ho1, hb1⟩
    have HO := hid ho1
    have HB := hid hb1
    clear ho1 hb1
    go_wp2_with fail
    go_ret2
    exact ⟨_, rfl, ⟨g1, c1, rfl, HO.out⟩, HB.out⟩
end Go.Proofs.Ytenjhmlgimnnoaa
