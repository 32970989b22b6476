/- Proved: the law 'PenKnown' (bytes by hand: what is too long, too great, not whole) answers true in every world. No condition: it has no input. -/
import Derived.Test.YtpeecmfchnlmlaaFrame
namespace Go.Proofs.Ytpeecmfchnlmlaa
open Go.ChangeShapes Go.WideShapes Go.ChangeAt Go.RowKit Pen
def bads : List (List Nat) := [[], [128], [128, 0], [255, 0], [128, 128, 128, 128, 128, 128, 128, 128, 128, 1], [129, 128, 128, 128, 128, 128, 128, 128, 64]]
/-- Where the six rows lie. -/
def Lie (w W : World) (B : Nat) : Prop := Below w.heap.size w W ∧ B < W.heap.size ∧ ∀ i, i < 6 → ∃ a, W.cell? ⟨B, i, none⟩ = some (.slice (some ⟨a, 0, none⟩) (bads.getD i []).length (bads.getD i []).length) ∧ Row W (some ⟨a, 0, none⟩) (bads.getD i [])
theorem Lie.below {w W W' : World} {B : Nat} (h : Lie w W B) (hb : Below W.heap.size W W') : Lie w W' B := by
  refine ⟨h.1.trans (hb.mono h.1.size), Nat.lt_of_lt_of_le h.2.1 hb.size, fun i hi => ?_⟩
  obtain ⟨a, h1, h2⟩ := h.2.2 i hi
  exact ⟨a, (hb.cell (p := ⟨B, i, none⟩) h.2.1).trans h1, h2.below hb⟩
theorem six_cells {w0 : World} {P : Nat → Option Value → Prop} (cs : Array Value) (hw : w0.heap[w0.heap.size - 1]? = some (.cells cs 25 (0, 0))) (h : ∀ i, i < 6 → P i cs[i]?) : ∀ i, i < 6 → P i (w0.cell? ⟨w0.heap.size - 1, i, none⟩) := by
  intro i hi
  rw [cell_of_row _ _ _ _ _ _ hw]
  exact h i hi
def row5 (l : List Nat) : Obj := .cells (row8 l) 5
def six (w : World) : World := (((((w.alloc (row5 (bads.getD 0 []))).alloc (row5 (bads.getD 1 []))).alloc (row5 (bads.getD 2 []))).alloc (row5 (bads.getD 3 []))).alloc (row5 (bads.getD 4 []))).alloc (row5 (bads.getD 5 []))
def sixCells (n : Nat) : Array Value := #[.slice (some ⟨n, 0, none⟩) 0 0, .slice (some ⟨n + 1, 0, none⟩) 1 1, .slice (some ⟨n + 1 + 1, 0, none⟩) 2 2, .slice (some ⟨n + 1 + 1 + 1, 0, none⟩) 2 2, .slice (some ⟨n + 1 + 1 + 1 + 1, 0, none⟩) 10 10, .slice (some ⟨n + 1 + 1 + 1 + 1 + 1, 0, none⟩) 9 9]
theorem al_below (w : World) (o : Obj) : Below w.heap.size w (w.alloc o) := (Below.refl _ w).alloc (Nat.le_refl _) o
theorem al_size (w : World) (o : Obj) : (w.alloc o).heap.size = w.heap.size + 1 := by simp
theorem bads_lt : ∀ l ∈ bads, ∀ x ∈ l, x < 256 := by decide
theorem six_row (w : World) (l : List Nat) (hl : l ∈ bads) : Row (w.alloc (row5 l)) (some ⟨w.heap.size, 0, none⟩) l := row_new w l (bads_lt l hl) 5 (0, 0)
theorem six_lie (w : World) : Lie w ((six w).alloc (.cells (sixCells w.heap.size) 25)) (w.heap.size + 6) := by
  have b0 := al_below w (row5 (bads.getD 0 []))
  have r0 := six_row w (bads.getD 0 []) (by decide)
  unfold six
  generalize hw1 : w.alloc (row5 (bads.getD 0 [])) = w1 at b0 r0
  have s1 : w1.heap.size = w.heap.size + 1 := by rw [← hw1, al_size]
  have b1 := al_below w1 (row5 (bads.getD 1 []))
  have r1 := six_row w1 (bads.getD 1 []) (by decide)
  generalize hw2 : w1.alloc (row5 (bads.getD 1 [])) = w2 at b1 r1
  have s2 : w2.heap.size = w.heap.size + 2 := by rw [← hw2, al_size, s1]
  have b2 := al_below w2 (row5 (bads.getD 2 []))
  have r2 := six_row w2 (bads.getD 2 []) (by decide)
  generalize hw3 : w2.alloc (row5 (bads.getD 2 [])) = w3 at b2 r2
  have s3 : w3.heap.size = w.heap.size + 3 := by rw [← hw3, al_size, s2]
  have b3 := al_below w3 (row5 (bads.getD 3 []))
  have r3 := six_row w3 (bads.getD 3 []) (by decide)
  generalize hw4 : w3.alloc (row5 (bads.getD 3 [])) = w4 at b3 r3
  have s4 : w4.heap.size = w.heap.size + 4 := by rw [← hw4, al_size, s3]
  have b4 := al_below w4 (row5 (bads.getD 4 []))
  have r4 := six_row w4 (bads.getD 4 []) (by decide)
  generalize hw5 : w4.alloc (row5 (bads.getD 4 [])) = w5 at b4 r4
  have s5 : w5.heap.size = w.heap.size + 5 := by rw [← hw5, al_size, s4]
  have b5 := al_below w5 (row5 (bads.getD 5 []))
  have r5 := six_row w5 (bads.getD 5 []) (by decide)
  generalize hw6 : w5.alloc (row5 (bads.getD 5 [])) = w6 at b5 r5
  have s6 : w6.heap.size = w.heap.size + 6 := by rw [← hw6, al_size, s5]
  have b6 := al_below w6 (.cells (sixCells w.heap.size) 25)
  have hc := heap_alloc_new w6 (.cells (sixCells w.heap.size) 25)
  generalize w6.alloc (.cells (sixCells w.heap.size) 25) = w7 at b6 hc
  rw [s6] at hc
  rw [s1] at r1
  rw [s2] at r2
  rw [s3] at r3
  rw [s4] at r4
  rw [s5] at r5
  have t5 := b6
  have t4 := b5.trans (t5.mono b5.size)
  have t3 := b4.trans (t4.mono b4.size)
  have t2 := b3.trans (t3.mono b3.size)
  have t1 := b2.trans (t2.mono b2.size)
  have t0 := b1.trans (t1.mono b1.size)
  refine ⟨b0.trans (t0.mono b0.size), (Array.getElem?_eq_some_iff.1 hc).1, fun i hi => ?_⟩
  rw [cell_of_row _ _ _ _ _ _ hc]
  match i, hi with
  | 0, _ => exact ⟨_, rfl, r0.below t0⟩
  | 1, _ => exact ⟨_, rfl, r1.below t1⟩
  | 2, _ => exact ⟨_, rfl, r2.below t2⟩
  | 3, _ => exact ⟨_, rfl, r3.below t3⟩
  | 4, _ => exact ⟨_, rfl, r4.below t4⟩
  | 5, _ => exact ⟨_, rfl, r5.below t5⟩
theorem bads_read (i : Nat) (hi : i < 6) : eNum 9 0 0 (bads.getD i []) = (0, [], true) := by
  have : ∀ j : Fin 6, eNum 9 0 0 (bads.getD j.val []) = (0, [], true) := by decide +kernel
  exact this ⟨i, hi⟩
theorem eText_nil : eText [] = ([], [], true) := by decide +kernel
theorem eFlt_nil : eFlt [] = (0, [], true) := by decide +kernel
theorem blind_byte {w : World} {q : Nat} (h : EyeAt w q [] true) : Calls Try.prog 21 #[.pointer (some ⟨q, 0, none⟩)] w fun e w' => e = .returned (.int .u8 0) ∧ EyeAt w' q [] true ∧ Only q none w w' := byte_any h
theorem blind_text {w : World} {q : Nat} (h : EyeAt w q [] true) : Calls Try.prog 20 #[.pointer (some ⟨q, 0, none⟩)] w fun e w' => e = .returned (.string ⟨#[]⟩) ∧ EyeAt w' q [] true ∧ Only q none w w' := by
  have := text_any h
  rw [eText_nil] at this
  exact this
theorem blind_float {w : World} {q : Nat} (h : EyeAt w q [] true) : Calls Try.prog 19 #[.pointer (some ⟨q, 0, none⟩)] w fun e w' => e = .returned (.float .f64 0) ∧ EyeAt w' q [] true ∧ Only q none w w' := by
  have := float_any h
  rw [eFlt_nil] at this
  exact this
theorem blind_left {w : World} {q : Nat} (h : EyeAt w q [] true) : Calls Try.prog 24 #[.pointer (some ⟨q, 0, none⟩)] w fun e w' => e = .returned (.int .i64 0) ∧ w' = w := left_any h
theorem neq_zero (w : World) : (binOp .neq 22 (.float .f64 0) (.float .f64 0)).run Try.prog w = .ok (.bool false) w := by kernel_rfl
theorem known_a : eNum 9 0 0 [128, 128, 128, 128, 128, 128, 128, 128, 64, 3, 1, 2] = (4611686018427387904, [3, 1, 2], false) := by decide +kernel
theorem known_b : eText [3, 1, 2] = ([], [], true) := by decide +kernel
theorem known_c : [] ++ num 0 ++ text (lst ⟨#[]⟩) ++ flt 9223372036854775808 ++ [9] = [0, 0, 0, 0, 0, 0, 0, 0, 0, 128, 9] := by
  have e0 : num 0 = [0] := num_small (by decide)
  have e1 : text (lst ⟨#[]⟩) = num 0 := by
    have : lst ⟨#[]⟩ = [] := rfl
    rw [this, text]; simp
  rw [e1, e0]
  decide +kernel
theorem copysign_any (w : World) : Calls Try.prog 30 #[.float .f64 0, .float .f64 13830554455654793216] w fun e w' => e = .returned (.float .f64 9223372036854775808) ∧ w' = w := by
  have k1 : ∀ w, (callFunc 23 #[.float .f64 0]).run Try.prog w = .ok (.value (.int .u64 0)) w := fun w => bits_any w 0
  have k2 : ∀ w, (callFunc 23 #[.float .f64 13830554455654793216]).run Try.prog w = .ok (.value (.int .u64 13830554455654793216)) w := fun w => bits_any w 13830554455654793216
  have k3 : ∀ w, (callFunc 34 #[.int .u64 9223372036854775808]).run Try.prog w = .ok (.value (.float .f64 9223372036854775808)) w := fun w => frombits_any w 9223372036854775808
  have z1 : bits .andNot .u64 0 9223372036854775808 = 0 := by kernel_rfl
  have z2 : bits .and .u64 13830554455654793216 9223372036854775808 = 9223372036854775808 := by kernel_rfl
  have z3 : bits .or .u64 0 9223372036854775808 = 9223372036854775808 := by kernel_rfl
  go_enter Try.func30, Try.ntmps30
  go_wp2_with fail
  go_ret
  exact ⟨rfl, rfl⟩
set_option maxRecDepth 20000 in
set_option maxHeartbeats 2000000 in
theorem penKnown_walk (w : World) : Calls Try.prog 6 #[] w fun e w' => e = .returned (.bool true) ∧ Below w.heap.size w w' := by
  go_enter Try.func6, Try.ntmps6
  go_wp2_with fail
  refine (awake_any _).mono ?_
  rintro e w0 ⟨rfl, hb0⟩
  have HB0 : Hid (Below w.heap.size w w0) := hb0
  clear hb0
  go_wp2_with fail
  have HL : Hid (Lie w0 ((six w0).alloc (.cells (sixCells w0.heap.size) 25)) (w0.heap.size + 6)) := six_lie w0
  go_loopg [2] 6 (fun k v wr => ∃ i : Nat, i + k = 6 ∧ v = .int .i64 (i : Int) ∧ Lie w0 wr (w0.heap.size + 6))
  case atStart => exact ⟨0, rfl, rfl, HL.out⟩
  case round =>
    obtain ⟨i, hi, rfl, hlie⟩ := hrel
    have HI : Hid (i + gk = 6) := hi
    have HLi : Hid (Lie w0 wr (w0.heap.size + 6)) := hlie
    clear hlie HL hi
    by_cases hlt : i < 6
    · obtain ⟨a, hc, hr⟩ := HLi.out.2.2 i hlt
      have hrd := bads_read i hlt
      obtain ⟨l, hl⟩ : ∃ l, bads.getD i [] = l := ⟨_, rfl⟩
      rw [hl] at hc hr hrd
      have i1 : (i : Int) < 6 := by omega
      obtain ⟨n, hn⟩ : ∃ n, l.length = n := ⟨_, rfl⟩
      rw [hn] at hc
      clear hl
      have hc1 : wr.cell? ⟨w0.heap.size + 1 + 1 + 1 + 1 + 1 + 1, i, none⟩ = some (.slice (some ⟨a, 0, none⟩) n n) := hc
      clear hc
      go_wp2_with fail
      refine (new_any _ l _ _ hn hr).mono ?_
      rintro e w1 ⟨rfl, rfl⟩
      have he := EyeAt.new wr l hr.1
      have hb1 := al_below wr (.cells #[.string (strOf l), .bool false] 60)
      generalize wr.alloc (.cells #[.string (strOf l), .bool false] 60) = w1 at he hb1 ⊢
      generalize hq : wr.heap.size = q at he hb1 ⊢
      clear hr hc1 hn
      go_wp2_with fail
      refine (num_any he).mono ?_
      rw [hrd]
      rintro e w2 ⟨rfl, he2, ho2⟩
      go_wp2_with fail
      refine (bad_any he2).mono ?_
      rintro e w3 ⟨rfl, rfl⟩
      go_wp2_with fail
      refine (blind_left he2).mono ?_
      rintro e w3 ⟨rfl, rfl⟩
      go_wp2_with fail
      refine (blind_byte he2).mono ?_
      rintro e w3 ⟨rfl, he3, ho3⟩
      go_wp2_with fail
      refine (blind_text he3).mono ?_
      rintro e w4 ⟨rfl, he4, ho4⟩
      go_wp2_with fail
      refine (blind_float he4).mono ?_
      rintro e w5 ⟨rfl, he5, ho5⟩
      have hz := neq_zero
      go_wp2_with fail
      go_roundg (gk - 1)
      case measure => have := HI.out; omega
      case rel =>
        have h1 := HI.out
        have ho := only_trans (only_trans (only_trans ho2 ho3) ho4) ho5
        subst hq
        have hb := hb1.trans (ho.below (Nat.le_refl _) (by simp) hb1.size)
        exact ⟨i + 1, by omega, by go_num, HLi.out.below hb⟩
    · have i1 : ¬ (i : Int) < 6 := by omega
      have HB : Hid (Below w.heap.size w wr) := HB0.out.trans (HLi.out.1.mono HB0.out.size)
      clear HLi HB0 HI
      go_wp2_with fail
      have hr : Row (wr.alloc (row5 [128, 128, 128, 128, 128, 128, 128, 128, 64, 3, 1, 2])) (some ⟨wr.heap.size, 0, none⟩) [128, 128, 128, 128, 128, 128, 128, 128, 64, 3, 1, 2] := row_new wr _ (by decide) 5 (0, 0)
      refine (new_any (w := wr.alloc (row5 [128, 128, 128, 128, 128, 128, 128, 128, 64, 3, 1, 2])) _ _ 12 12 rfl hr).mono ?_
      rintro e w1 ⟨rfl, rfl⟩
      have he := EyeAt.new (wr.alloc (row5 [128, 128, 128, 128, 128, 128, 128, 128, 64, 3, 1, 2])) _ hr.1
      have hb1 := (al_below wr (row5 [128, 128, 128, 128, 128, 128, 128, 128, 64, 3, 1, 2])).alloc (by simp) (.cells #[.string (strOf [128, 128, 128, 128, 128, 128, 128, 128, 64, 3, 1, 2]), .bool false] 60)
      generalize (wr.alloc (row5 [128, 128, 128, 128, 128, 128, 128, 128, 64, 3, 1, 2])).alloc (.cells #[.string (strOf [128, 128, 128, 128, 128, 128, 128, 128, 64, 3, 1, 2]), .bool false] 60) = w1 at he hb1 ⊢
      have hq : wr.heap.size ≤ (wr.alloc (row5 [128, 128, 128, 128, 128, 128, 128, 128, 64, 3, 1, 2])).heap.size := by simp
      generalize (wr.alloc (row5 [128, 128, 128, 128, 128, 128, 128, 128, 64, 3, 1, 2])).heap.size = q at he hq ⊢
      clear hr
      go_wp2_with fail
      refine (num_any he).mono ?_
      rw [known_a]
      rintro e w2 ⟨rfl, he2, ho2⟩
      go_wp2_with fail
      refine (text_any he2).mono ?_
      rw [known_b]
      rintro e w3 ⟨rfl, he3, ho3⟩
      have hb3 := hb1.trans ((only_trans ho2 ho3).below hq (by simp) hb1.size)
      have HB3 : Hid (Below w.heap.size w w3) := HB.out.trans (hb3.mono HB.out.size)
      have e0 : strOf ([], ([] : List Nat), true).1 = ⟨#[]⟩ := rfl
      rw [e0]
      clear ho2 ho3 he2 he hb3 hb1 hq HB
      have hp := PenAt.new w3.heap.size w3 (Nat.le_refl _)
      have hb4 := al_below w3 (.cells #[.slice none 0 0] 27)
      go_wp2_with fail
      refine (wnum_any (-5) (by decide) (by simp) hp).mono ?_
      rintro e w4 ⟨rfl, o4, hp4, ho4, _⟩
      have hb5 := hb4.trans (ho4.pen hp)
      go_wp2_with fail
      refine (wtext_any ⟨#[]⟩ (by decide) (by decide +kernel) hp4).mono ?_
      rintro e w5 ⟨rfl, o5, hp5, ho5⟩
      have hb6 := hb5.trans (ho5.pen hp4)
      clear hp hb4 ho4 hb5 ho5 hp4
      go_wp2_with fail
      refine (copysign_any _).mono ?_
      rintro e w6 ⟨rfl, rfl⟩
      go_wp2_with fail
      refine (wfloat_any 9223372036854775808 (by decide) (by decide +kernel) hp5).mono ?_
      rintro e w7 ⟨rfl, o7, hp7, ho7, _⟩
      have hb8 := hb6.trans (ho7.pen hp5)
      clear ho7 hp5 hb6
      go_wp2_with fail
      refine (wbyte_any 9 (by decide) (by decide +kernel) hp7).mono ?_
      rintro e w8 ⟨rfl, o8, hp8, ho8, _⟩
      have hb9 := hb8.trans (ho8.pen hp7)
      have he9 := he3.below hb9
      have e5 : ((-5 : Int).toNat) = 0 := by decide
      rw [e5, known_c] at hp8
      clear ho8 hp7 hb8 he3
      go_wp2_with fail
      refine (bad_any he9).mono ?_
      rintro e w9 ⟨rfl, rfl⟩
      go_wp2_with fail
      refine (bytes_any (by simp) (by simp) hp8).mono ?_
      rintro e w10 ⟨g, cap, rfl, hr, hb, _, _⟩
      have hs := str_any w10 _ _ 11 cap rfl hr
      have es : strOf [0, 0, 0, 0, 0, 0, 0, 0, 0, 128, 9] = ⟨#[0, 0, 0, 0, 0, 0, 0, 0, 0, 128, 9]⟩ := by decide +kernel
      rw [es] at hs
      have HBZ : Hid (Below w.heap.size w w10) := by
        have h1 := HB3.out.trans (hb9.mono HB3.out.size)
        exact h1.trans (hb.mono h1.size)
      clear hr hb hp8 he9 hb9
      go_wp2_with fail
      go_ret
      exact ⟨rfl, HBZ.out⟩
set_option maxRecDepth 100000 in
theorem penKnown_lifted (os : Os) (started : os.Started) (H : Type) (enc : TypeId × Value → H) :
    ReturnsInHanded {} Try.checked os 6 .any (Rows.penKnownSpec.pre6 enc Try.prog Try.f6 Rows.penKnownRow.domain false) (Rows.penKnownSpec.post enc Try.prog Try.f6 false true false false) := by
  refine returnsInHanded_of_change (C := Try.checked) own started (by kernel_rfl) Try.func6
    (ChangeSpec.witness6 (enc := enc) (C := Try.checked) false ⟨#[], #[], []⟩ 8 (by kernel_rfl) (by kernel_rfl) (by kernel_rfl) (by kernel_rfl)) ?_
  intro W base args ds gs before hval0 hW _ _
  have hW' := hW
  obtain ⟨p, q, hA0, hV, rfl, hfz, hnd⟩ := hW
  have hA : DataW.TrodAll enc Try.prog W 0 (fun _ => true) true Try.f6.params.toList args.toList ds p := hA0
  rw [Try.params6] at hA
  obtain ⟨rfl, rfl, rfl⟩ := trodAll_none hA
  obtain ⟨rfl, rfl⟩ := trodVars_none hV
  clear hA0 hval0
  refine (penKnown_walk W).mono fun e W' ⟨he, bel⟩ => ?_
  subst he
  exact ⟨_, rfl, _, _, _, [], _, [], hW', trodAll_mk1 (shut_bool Try.underlying4 _), trodAll_mk0, rfl, bel.frame _, fun h => by cases h⟩

theorem penKnown_over : Rows.penKnownRow.holds Try.pinned (OpenSpec.ofChange Rows.penKnownSpec) :=
  OpenClaim.holds_of_wide 6 Try.f6 rfl rfl rfl rfl rfl rfl rfl ⟨rfl, rfl, rfl, rfl, rfl⟩ rfl rfl rfl rfl rfl (by kernel_rfl) Try.func6 (by kernel_rfl)
    (of_decide_eq_true (by kernel_rfl)) (by unfold Func.isWrapper; first | (rw [if_pos (by decide +kernel)]; kernel_rfl) | (rw [if_neg (by decide +kernel)]; exact ⟨rfl, rfl⟩))
    (fun os started H enc _ => penKnown_lifted os started H enc)

theorem penKnown_holds : Rows.PenKnownSaid := penKnown_over
#print axioms penKnown_holds
end Go.Proofs.Ytpeecmfchnlmlaa
