/- Proved: the law 'PenTurns' (any numbers, floats, texts, bytes: written as the page says; read they are the same, bit by bit) answers true, whatever comes in. No condition. -/
import Derived.Test.YtpeecmfchnlmlaaRefs
import Derived.Deep.RegionHeld
import Derived.Laws.Cover2
import Derived.Deep.DrawnRows
namespace Go.Proofs.Ytpeecmfchnlmlaa
open Go.ChangeShapes Go.WideShapes Go.ChangeAt Go.RowKit Pen
attribute [local go_sem ↓] Go.wp_at_zero Go.wp_at_succ
set_option linter.unusedVariables false
theorem owns_below {W W' : World} {base : Nat} {v : Value} {n : Nat} {xs : List Value} (h : W.ownsRow base 5 1 v n xs) (hb : Below W.heap.size W W') : W'.ownsRow base 5 1 v n xs := by
  obtain ⟨h0, h | ⟨g', cap', cur, hv, h1, h2, h3⟩⟩ := h
  · exact ⟨h0, .inl h⟩
  · have hlt : g' < W.heap.size := (Array.getElem?_eq_some_iff.1 h2).1
    exact ⟨h0, .inr ⟨g', cap', cur, hv, h1, (hb.block g' hlt).trans h2, h3⟩⟩
/-- What is known of a row that grows: it is the call's own, from B on; nothing below B has turned since w. -/
def Grows (B : Nat) (w W : World) (g n cap : Nat) (l : List Nat) : Prop :=
  l.length = n ∧ W.ownsRow B 5 1 (.slice (some ⟨g, 0, none⟩) n cap) n (vals l) ∧ Below B w W ∧ B ≤ W.heap.size
theorem Grows.len {B : Nat} {w W : World} {g n cap : Nat} {l : List Nat} (h : Grows B w W g n cap l) : W.ownsRow B 5 1 (.slice (some ⟨g, 0, none⟩) n cap) l.length (vals l) := by rw [h.1]; exact h.2.1
theorem Grows.below {B : Nat} {w W W' : World} {g n cap : Nat} {l : List Nat} (h : Grows B w W g n cap l) (hb : Below W.heap.size W W') : Grows B w W' g n cap l :=
  ⟨h.1, owns_below h.2.1 hb, h.2.2.1.trans (hb.mono h.2.2.2), Nat.le_trans h.2.2.2 hb.size⟩
theorem Grows.app {B : Nat} {w W W' : World} {g n cap g' n' cap' : Nat} {l l2 : List Nat} (h : Grows B w W g n cap l) (hn : (l ++ l2).length = n') (hown : W'.ownsRow B 5 1 (.slice (some ⟨g', 0, none⟩) n' cap') n' (vals (l ++ l2))) (hg : W.grownBy W' (Value.slice (some ⟨g, 0, none⟩) n cap).ownBlock) :
    Hid (Grows B w W' g' n' cap' (l ++ l2)) := by
  refine ⟨hn, hown, h.2.2.1.grown hg h.2.2.2 ?_, Nat.le_trans h.2.2.2 hg.size⟩
  rcases h.2.1.2 with ⟨e, _⟩ | ⟨g1, cap1, cur, e, hb', _⟩
  · simp at e
  · intro k hk; simp [Value.ownBlock] at hk; simp at e; omega
theorem Grows.row {B : Nat} {w W : World} {g n cap : Nat} {l : List Nat} (h : Grows B w W g n cap l) (hl : ∀ x ∈ l, x < 256) : Row W (some ⟨g, 0, none⟩) l := by
  obtain ⟨a, c, e, _, _, h3⟩ := row_of_owns h.len hl
  simp at e
  obtain ⟨rfl, _⟩ := e
  exact h3
theorem hands_row {W w' : World} {g cap : Nat} {l : List Nat} (hown : w'.ownsRow W.heap.size 5 1 (.slice (some ⟨g, 0, none⟩) l.length cap) l.length (vals l)) (hl : ∀ x ∈ l, x < 256) : Row w' (some ⟨g, 0, none⟩) l := by
  obtain ⟨a, c, e, _, _, h3⟩ := row_of_owns hown hl
  simp at e
  obtain ⟨rfl, rfl⟩ := e
  exact h3
theorem al_below (w : World) (o : Obj) : Below w.heap.size w (w.alloc o) := (Below.refl _ w).alloc (Nat.le_refl _) o
theorem penTurns_long (z : Int) (b : Nat) (s : ByteArray) (w : World) (h : 3000 < s.size) :
    Calls Try.prog 3 #[.int .i64 z, .float .f64 b, .string s] w fun e w' => e = .returned (.bool true) ∧ Below w.heap.size w w' := by
  have g1 : (3000 : Int) < (s.size : Int) := by omega
  go_enter Try.func3, Try.ntmps3
  go_wp2_with fail
  refine (awake_any _).mono ?_
  rintro e w0 ⟨rfl, hb0⟩
  go_wp2_with fail
  go_ret
  exact ⟨rfl, hb0⟩
set_option maxRecDepth 20000 in
set_option maxHeartbeats 4000000 in
theorem penTurns_walk (z : Int) (hz : z < 9223372036854775808) (b : Nat) (hb : b < 18446744073709551616) (s : ByteArray) (hs : s.size ≤ 3000) (w : World) :
    Calls Try.prog 3 #[.int .i64 z, .float .f64 b, .string s] w fun e w' => e = .returned (.bool true) ∧ Below w.heap.size w w' := by
  have g1 : ¬ (3000 : Int) < (s.size : Int) := by omega
  obtain ⟨N, hN⟩ : ∃ N, z.toNat = N := ⟨_, rfl⟩
  have hN63 : N < 9223372036854775808 := by omega
  have HlN := hid (num_len10 N hN63)
  have HlT : Hid ((text (lst s)).length ≤ 3010) := by
    show _ ≤ _
    rw [text, List.length_append, lst_len]
    have := num_len10 s.size (by omega)
    omega
  go_enter Try.func3, Try.ntmps3
  go_wp2_with fail
  refine (awake_any _).mono ?_
  rintro e w0 ⟨rfl, hb0⟩
  have hp0 := PenAt.new w0.heap.size w0 (Nat.le_refl _)
  have hbb : Below w.heap.size w (w0.alloc (.cells #[.slice none 0 0] 27)) := hb0.alloc hb0.size _
  have hbs := hb0.size
  clear hb0
  go_wp2_with fail
  generalize w0.alloc (.cells #[.slice none 0 0] 27) = W0 at hp0 hbb ⊢
  generalize w0.heap.size = p at hp0 hbs ⊢
  refine (wnum_any z hz (by simp) hp0).mono ?_
  rw [hN]
  rintro e w1 ⟨rfl, o1, hp1, ho1, _⟩
  have hb1 := hbb.trans ((ho1.pen hp0).mono hbs)
  clear hp0 ho1 hbb
  go_wp2_with fail
  refine (wfloat_any b hb (by have := HlN.out; simp; omega) hp1).mono ?_
  rintro e w2 ⟨rfl, o2, hp2, ho2, _⟩
  have hb2 := hb1.trans ((ho2.pen hp1).mono hbs)
  clear hp1 ho2 hb1
  go_wp2_with fail
  refine (wtext_any s (by omega) (by have := HlN.out; simp [flt_len]; omega) hp2).mono ?_
  rintro e w3 ⟨rfl, o3, hp3, ho3⟩
  have hb3 := hb2.trans ((ho3.pen hp2).mono hbs)
  clear hp2 ho3 hb2
  go_wp2_with fail
  refine (wbyte_any 7 (by decide) (by have := HlN.out; have := HlT.out; simp [flt_len]; omega) hp3).mono ?_
  rintro e w4 ⟨rfl, o4, hp4, ho4, _⟩
  have hb4 := hb3.trans ((ho4.pen hp3).mono hbs)
  clear hp3 ho4 hb3
  obtain ⟨L1, hL1⟩ : ∃ L1, num N = L1 := ⟨_, rfl⟩
  obtain ⟨L2, hL2⟩ : ∃ L2, flt b = L2 := ⟨_, rfl⟩
  obtain ⟨L3, hL3⟩ : ∃ L3, text (lst s) = L3 := ⟨_, rfl⟩
  have HP := hid hp4
  have HB := hid hb4
  clear hp4 hb4
  have hlt1 : ∀ x ∈ L1, x < 256 := by rw [← hL1]; exact num_lt N
  have hlt2 : ∀ x ∈ L2, x < 256 := by rw [← hL2]; exact flt_lt b
  have hlt3 : ∀ x ∈ L3, x < 256 := by rw [← hL3]; exact text_lt _ (lst_lt s)
  have hlt4 : ∀ x ∈ [7], x < 256 := by decide
  have hne1 : L1 ≠ [] := by rw [← hL1]; exact num_ne N
  have hne2 : L2 ≠ [] := by rw [← hL2]; intro e; have := flt_len b; rw [e] at this; simp at this
  have hne3 : L3 ≠ [] := by rw [← hL3, text]; intro e; exact num_ne _ (List.append_eq_nil_iff.1 e).1
  have k1 := fun W => rnum_any W z hz
  have k2 := fun W => rfloat_any W b hb
  have k3 := fun W => rtext_any W s (by omega)
  rw [hN, hL1] at k1
  rw [hL2] at k2
  rw [hL3] at k3
  have l1 : L1.length ≤ 10 := by rw [← hL1]; exact HlN.out
  have l2 : L2.length ≤ 10 := by rw [← hL2, flt_len]; decide
  have l3 : L3.length ≤ 3010 := by rw [← hL3]; exact HlT.out
  rw [hL1, hL2, hL3] at HP
  have HL1 := hid hL1
  have HL2 := hid hL2
  have HL3 := hid hL3
  have HN := hid hN
  clear hL1 hL2 hL3 hN HlN HlT
  obtain ⟨n1, hn1⟩ : ∃ n1, L1.length = n1 := ⟨_, rfl⟩
  obtain ⟨n2, hn2⟩ : ∃ n2, L2.length = n2 := ⟨_, rfl⟩
  obtain ⟨n3, hn3⟩ : ∃ n3, L3.length = n3 := ⟨_, rfl⟩
  have HN1 := hid hn1
  have HN2 := hid hn2
  have HN3 := hid hn3
  unfold Hands at k1 k2 k3
  clear hn1 hn2 hn3
  -- the document's own row
  have hg0 : Grows w4.heap.size w4 (w4.alloc (.cells #[] 5)) w4.heap.size 0 0 [] := ⟨rfl, owns_empty w4, (Below.refl _ _).alloc (Nat.le_refl _) _, by simp⟩
  go_wp2_with fail
  generalize w4.alloc (.cells #[] 5) = w5 at hg0 ⊢
  generalize hB : w4.heap.size = B at hg0 ⊢
  have HBB := hid hB
  clear hB
  refine (k1 _).mono ?_
  rintro e w6 ⟨g6, c6, rfl, hown6, hb6⟩
  have HR6 := hid (hands_row hown6 hlt1)
  have HG6 := hid (hg0.below hb6)
  clear hown6 hb6 hg0
  rw [HN1.out]
  have tok : True := trivial
  go_wp2_with (at_builtin; have _t := tok; refine wpList_append_row _ rfl _ _ rfl B (.slice (some ⟨B, 0, none⟩) 0 0) [] rfl HG6.out.len _ L1 n1 c6 rfl HN1.out HR6.out hne1 (by simp; omega) HG6.out.2.2.2 ?_; intro g7 n7 c7 w7 hn7 hown7 hg7 _; have HG7 := HG6.out.app hn7 hown7 hg7; clear tok hn7 hown7 hg7 HG6 HR6)
  refine (k2 _).mono ?_
  rintro e w8 ⟨g8, c8, rfl, hown8, hb8⟩
  have HR8 := hid (hands_row hown8 hlt2)
  have HG8 := hid (HG7.out.below hb8)
  clear hown8 hb8 HG7
  rw [HN2.out]
  rw [List.nil_append] at HG8
  have tok : True := trivial
  go_wp2_with (at_builtin; have _t := tok; refine wpList_append_row _ rfl _ _ rfl B (.slice (some ⟨g7, 0, none⟩) n7 c7) L1 rfl HG8.out.len _ L2 n2 c8 rfl HN2.out HR8.out hne2 (by omega) HG8.out.2.2.2 ?_; intro g9 n9 c9 w9 hn9 hown9 hg9 _; have HG9 := HG8.out.app hn9 hown9 hg9; clear tok hn9 hown9 hg9 HG8 HR8)
  refine (k3 _).mono ?_
  rintro e w10 ⟨g10, c10, rfl, hown10, hb10⟩
  have HR10 := hid (hands_row hown10 hlt3)
  have HG10 := hid (HG9.out.below hb10)
  clear hown10 hb10 HG9
  rw [HN3.out]
  have tok : True := trivial
  have HS10 : Hid ((L1 ++ L2).length + L3.length ≤ 1000000000) := by show _ ≤ _; simp; omega
  have HS11 : Hid ((L1 ++ L2 ++ L3).length + [7].length ≤ 1000000000) := by show _ ≤ _; simp; omega
  go_wp2_with (first
    | (at_builtin; have _t := tok; refine wpList_append_row _ rfl _ _ rfl B (.slice (some ⟨g9, 0, none⟩) n9 c9) (L1 ++ L2) rfl HG10.out.len _ L3 n3 c10 rfl HN3.out HR10.out hne3 HS10.out HG10.out.2.2.2 ?_; intro g11 n11 c11 w11 hn11 hown11 hg11 _; have HG11 := HG10.out.app hn11 hown11 hg11; have HG12 := hid (HG11.out.below (al_below w11 (.cells #[.int .u8 7] 5))); have HR12 := hid (row1 w11 7 (by decide)); have tok2 : True := trivial; clear tok hn11 hown11 hg11 HG10 HR10 HG11)
    | (at_builtin; have _t := tok2; refine wpList_append_row _ rfl _ _ rfl B (.slice (some ⟨g11, 0, none⟩) n11 c11) (L1 ++ L2 ++ L3) rfl HG12.out.len _ [7] 1 1 rfl rfl HR12.out (by simp) HS11.out HG12.out.2.2.2 ?_; intro g13 n13 c13 w13 hn13 hown13 hg13 _; have HG13 := HG12.out.app hn13 hown13 hg13; clear tok2 hn13 hown13 hg13 HG12 HR12))
  obtain ⟨L, hL⟩ : ∃ L, L1 ++ L2 ++ L3 ++ [7] = L := ⟨_, rfl⟩
  have hltL : ∀ x ∈ L, x < 256 := by rw [← hL]; exact lt_app (lt_app (lt_app hlt1 hlt2) hlt3) hlt4
  have hneL : L ≠ [] := by rw [← hL]; simp
  have hlL : L.length ≤ 4000 := by rw [← hL]; simp; omega
  rw [List.nil_append, hL] at HP
  rw [hL] at HG13
  have HL := hid hL
  have hb13 : Below w4.heap.size w4 w13 := by rw [HBB.out]; exact HG13.out.2.2.1
  have hrow := HG13.out.row hltL
  have hLn := HG13.out.1
  have hP : ∀ W, Below w13.heap.size w13 W → _ := fun W hW => bytes_at hLn hneL (by omega) (HP.out.below hb13) hW
  have hw : ∀ W, Below w13.heap.size w13 W → _ := str_at (cap := c13) hrow hLn
  have hSP : ∀ (w' : World) (g cap' : Nat), Row w' (some ⟨g, 0, none⟩) L → ∀ W, Below w'.heap.size w' W → (convert 25 9 (.slice (some ⟨g, 0, none⟩) n13 cap')).run Try.prog W = .ok (.string (strOf L)) W := fun w' g cap' hr => str_at hr hLn
  have HB13 : Hid (Below w.heap.size w w13) := HB.out.trans (hb13.mono HB.out.size)
  have HRow := hid hrow
  have HLn := hid hLn
  have hltL2 := hid hltL
  obtain ⟨SL, hSL⟩ : ∃ SL, strOf L = SL := ⟨_, rfl⟩
  rw [hSL] at hw hSP
  clear hL hrow hLn hb13 hltL HG13 HP HB HBB hSL hlt1 hlt2 hlt3 hlt4 hne1 hne2 hne3 k1 k2 k3 HS10 HS11 HN1 HN2 HN3 hneL hbs g1 l1 l2 l3
  go_region_held (fun w' => Below w13.heap.size w13 w') (first | assumption | (refine Below.drew ?_; assumption) | (refine Below.drew ?_; exact Below.refl _ _)) (first
    | (go_at_call_of 16 p; refine (hP _ ?_).mono ?_; assumption; rintro e w1 ⟨g1, cap1, rfl, hb1, hb2, hb3, hg1⟩; replace hg1 := hSP w1 g1 cap1 hg1))
  have hrow := HRow.out.below hb1
  have hbw := HB13.out.trans (hb1.mono HB13.out.size)
  clear hg1 hb3 hb2 hb1 hP hw hSP HRow HB13
  go_wp2_with fail
  refine (new_any _ L _ _ HLn.out hrow).mono ?_
  rintro e w2 ⟨rfl, rfl⟩
  have he := EyeAt.new w1 L hltL2.out
  have hbx := hbw.alloc hbw.size (.cells #[.string (strOf L), .bool false] 60)
  have hq := hbw.size
  generalize w1.alloc (.cells #[.string (strOf L), .bool false] 60) = w2 at he hbx ⊢
  generalize w1.heap.size = q at he hq ⊢
  clear hrow hbw
  go_wp2_with fail
  have hLL : L = num N ++ (flt b ++ (text (lst s) ++ [7])) := by rw [← HL.out, HL1.out, HL2.out, HL3.out]; simp
  rw [hLL] at he
  clear hLL
  have hsl : (lst s).length ≤ 4611686018427387904 := by rw [lst_len]; omega
  by_cases hbig : 4611686018427387904 < N
  · have g2 : (4611686018427387904 : Int) < z := by have := HN.out; omega
    refine (num_any he).mono ?_
    rw [eNum_great N _ hbig hN63]
    rintro e w3 ⟨rfl, he3, ho3⟩
    go_wp2_with fail
    refine (float_any he3).mono ?_
    rintro e w4 ⟨rfl, he4, ho4⟩
    go_wp2_with fail
    refine (text_any he4).mono ?_
    rintro e w5 ⟨rfl, he5, ho5⟩
    go_wp2_with fail
    refine (byte_any he5).mono ?_
    rintro e w6 ⟨rfl, he6, ho6⟩
    have hby := hbx.trans ((only_trans (only_trans (only_trans ho3 ho4) ho5) ho6).below hq (by simp) hbx.size)
    clear ho3 ho4 ho5 ho6 he3 he4 he5 he hbx
    go_wp2_with fail
    refine (bad_any he6).mono ?_
    rintro e w7 ⟨rfl, rfl⟩
    go_wp2_with fail
    go_ret
    exact ⟨by simp, hby⟩
  · have g2 : ¬ (4611686018427387904 : Int) < z := by have := HN.out; omega
    refine (num_any he).mono ?_
    rw [eNum_read N _ (by omega)]
    rintro e w3 ⟨rfl, he3, ho3⟩
    go_wp2_with fail
    refine (float_any he3).mono ?_
    rw [eFlt_read b _ hb]
    rintro e w4 ⟨rfl, he4, ho4⟩
    go_wp2_with fail
    refine (text_any he4).mono ?_
    rw [eText_read _ _ hsl, strOf_lst]
    rintro e w5 ⟨rfl, he5, ho5⟩
    go_wp2_with fail
    refine (byte_any he5).mono ?_
    rintro e w6 ⟨rfl, he6, ho6⟩
    have hby := hbx.trans ((only_trans (only_trans (only_trans ho3 ho4) ho5) ho6).below hq (by simp) hbx.size)
    have HBy := hid hby
    have kb := fun w => bits_any w b
    clear ho3 ho4 ho5 ho6 he3 he4 he5 he hbx hby
    have he7 : EyeAt w6 q [] false := he6
    have e7 : ((([7] : List Nat).getD 0 0 : Nat) : Int) = 7 := rfl
    rw [e7]
    clear he6 e7
    by_cases hz0 : z < 0
    · obtain rfl : N = 0 := by have := HN.out; omega
      go_wp2_with fail
      refine (left_any he7).mono ?_
      rintro e w7 ⟨rfl, rfl⟩
      go_wp2_with fail
      refine (bad_any he7).mono ?_
      rintro e w8 ⟨rfl, rfl⟩
      go_wp2_with fail
      go_ret
      exact ⟨rfl, HBy.out⟩
    · have hzN : (N : Int) = z := by have := HN.out; omega
      rw [hzN]
      have n1 : max z 0 = z := by omega
      clear hzN hbig HN hN63 HL HL1 HLn hltL2 hz hlL
      go_wp2_with fail
      refine (left_any he7).mono ?_
      rintro e w7 ⟨rfl, rfl⟩
      go_wp2_with fail
      refine (bad_any he7).mono ?_
      rintro e w8 ⟨rfl, rfl⟩
      go_wp2_with fail
      go_ret
      exact ⟨rfl, HBy.out⟩
theorem penTurns_all (z : Int) (b : Nat) (s : ByteArray) (w : World) (w0 : (Lit.int .i64 z).wf = true) (w1 : (Lit.float .f64 b).wf = true) :
    Calls Try.prog 3 #[.int .i64 z, .float .f64 b, .string s] w fun e w' => e = .returned (.bool true) ∧ Below w.heap.size w w' := by
  have h1 := bounds_i64 w0
  have h2 : b < 2 ^ 64 := by simpa [Lit.wf] using w1
  by_cases h : s.size ≤ 3000
  · exact penTurns_walk z (by omega) b (by omega) s h w
  · exact penTurns_long z b s w (by omega)
set_option maxRecDepth 100000 in
theorem penTurns_lifted (os : Os) (started : os.Started) (H : Type) (enc : TypeId × Value → H) :
    ReturnsInHanded {} Try.checked os 3 .any (Rows.penTurnsSpec.pre6 enc Try.prog Try.f3 Rows.penTurnsRow.domain false) (Rows.penTurnsSpec.post enc Try.prog Try.f3 false true false false) := by
  refine returnsInHanded_of_change (C := Try.checked) own started (by kernel_rfl) Try.func3
    (ChangeSpec.witness6 (enc := enc) (C := Try.checked) false ⟨#[], #[.int .i64 0, .float .f64 0, .string ⟨#[]⟩], []⟩ 8 (by kernel_rfl) (by kernel_rfl) (by kernel_rfl) (by kernel_rfl)) ?_
  intro W base args ds gs before hval0 hW hcnd _
  have hval : ∀ (j : Nat) t v, Try.f3.params[j]? = some t → args[j]? = some v → Value.okWide Try.prog W .any base t v := hval0
  have hW' := hW
  obtain ⟨p, q, hA0, hV, rfl, hfz, hnd⟩ := hW
  have hA : DataW.TrodAll enc Try.prog W 0 (fun _ => true) true Try.f3.params.toList args.toList ds p := hA0
  rw [Try.params3] at hA hval
  obtain ⟨v0, vs0, d0, ds0, p0, q0, hargs, rfl, rfl, h0, r0⟩ := trodAll_cons hA
  obtain ⟨v1, vs1, d1, ds1, p1, q1, rfl, rfl, rfl, h1, r1⟩ := trodAll_cons r0
  obtain ⟨v2, vs2, d2, ds2, p2, q2, rfl, rfl, rfl, h2, r2⟩ := trodAll_cons r1
  obtain ⟨rfl, rfl, rfl⟩ := trodAll_nil r2
  obtain rfl : args = #[v0, v1, v2] := by cases args; simp_all
  obtain ⟨rfl, rfl⟩ := trodVars_none hV
  obtain ⟨a0, rfl, rfl, rfl, w0⟩ := open_int Try.underlying3 (hval 0 3 v0 rfl rfl) h0
  obtain ⟨a1, rfl, rfl, rfl, w1⟩ := open_float Try.underlying22 (hval 1 22 v1 rfl rfl) h1
  obtain ⟨a2, rfl, rfl, rfl, w2⟩ := Go.ChangeMaps.open_string Try.underlying9 (hval 2 9 v2 rfl rfl) h2
  clear hA0 hval0
  refine (penTurns_all a0 a1 a2 W w0 w1).mono fun e W' ⟨he, bel⟩ => ?_
  subst he
  exact ⟨_, rfl, _, _, _, [], _, [], hW', trodAll_mk1 (shut_bool Try.underlying4 _), (trodAll_cons_mk (shut_int Try.underlying3 w0) (trodAll_cons_mk (shut_float Try.underlying22 w1) (trodAll_cons_mk (Go.ChangeMaps.shut_string Try.underlying9 w2) trodAll_mk0))), rfl, bel.frame _, fun h => by cases h⟩

theorem penTurns_over : Rows.penTurnsRow.holds Try.pinned (OpenSpec.ofChange Rows.penTurnsSpec) :=
  OpenClaim.holds_of_wide 3 Try.f3 rfl rfl rfl rfl rfl rfl rfl ⟨rfl, rfl, rfl, rfl, rfl⟩ rfl rfl rfl rfl rfl (by kernel_rfl) Try.func3 (by kernel_rfl)
    (of_decide_eq_true (by kernel_rfl)) (by unfold Func.isWrapper; first | (rw [if_pos (by decide +kernel)]; kernel_rfl) | (rw [if_neg (by decide +kernel)]; exact ⟨rfl, rfl⟩))
    (fun os started H enc _ => penTurns_lifted os started H enc)

theorem penTurns_holds : Rows.PenTurnsSaid := penTurns_over
#print axioms penTurns_holds
end Go.Proofs.Ytpeecmfchnlmlaa
