/- What the frames lean on: slices, rows of the call's own, bytes.Equal, slices.Clone, numbers out of four bytes. Condition: at most nine hundred million bytes. -/
import Derived.Test.YteohjfhflodklaaSee
import Derived.Test.YteohjfhflodklaaMore
import Derived.Test.YteohjfhflodklaaPMath
namespace Go.Proofs.Yteohjfhflodklaa
open Go.ChangeShapes Go.WideShapes Go.ChangeAt Go.RowKit Pen
open Crc (four nx run)
/-- An append to a row of the call's own, nothing made ahead of it. -/
theorem own_app0 {W w1 w2 : World} {v : Value} {l1 l2 : List Nat} {g m cap : Nat} (hb : Below W.heap.size W w1) (hown : w1.ownsRow W.heap.size 5 1 v l1.length (vals l1))
    (hg : w1.grownBy w2 v.ownBlock) (hown2 : w2.ownsRow W.heap.size 5 1 (.slice (some ⟨g, 0, none⟩) m cap) m (vals (l1 ++ l2))) :
    Hid (w2.ownsRow W.heap.size 5 1 (.slice (some ⟨g, 0, none⟩) m cap) m (vals (l1 ++ l2)) ∧ Below W.heap.size W w2) := by
  refine ⟨hown2, hb.grown hg hb.size ?_⟩
  rcases hown.2 with ⟨rfl, _⟩ | ⟨g', cap', cur, rfl, hb', _⟩
  · intro k hk; simp [Value.ownBlock] at hk
  · intro k hk; simp [Value.ownBlock] at hk; omega
theorem elem35 : Try.prog.elem 40 = 5 := by kernel_rfl
theorem size5 (w : World) : (sizeOf 5).run Try.prog w = .ok 1 w := by kernel_rfl
theorem addr_add0 (a : Addr) : a.add 0 = a := by unfold Addr.add; simp
theorem slice_to (w : World) (a : Option Addr) (n cap k : Nat) (hk : k ≤ cap) : (Instr.slice 40 (.slice a n cap) none (some (.int .i64 (k : Int))) none).run Try.prog w = .ok (.slice a k cap) w := by
  rw [run_slice_h (ht := (by rw [elem35]; exact Try.underlying40 : Try.prog.underlying 40 = some (.slice (Try.prog.elem 40)))) (kh := .i64) (h := (k : Int)) (h0 := by omega) (h2 := by omega), elem35, size5]
  simp [sliced, Result.andThen, addr_add0]
theorem slice_from (w : World) (a : Option Addr) (n cap k : Nat) (hk : k ≤ n) : (Instr.slice 40 (.slice a n cap) (some (.int .i64 (k : Int))) none none).run Try.prog w = .ok (.slice (fromA a k cap) (n - k) (cap - k)) w := by
  rw [run_slice_l (ht := (by rw [elem35]; exact Try.underlying40 : Try.prog.underlying 40 = some (.slice (Try.prog.elem 40)))) (kl := .i64) (l := (k : Int)) (h0 := by omega) (h1 := by omega), elem35, size5]
  simp [sliced, Result.andThen, fromA]
theorem owns_row8 {w : World} {base g n : Nat} {l : List Nat} (h : w.heap[g]? = some (.cells (row8 l) 5 (0, 0))) (hg : base ≤ g) (hn : l.length = n) (hm : n ≤ 1000000) : w.ownsRow base 5 1 (.slice (some ⟨g, 0, none⟩) n n) n (vals l) := by
  subst hn
  exact ⟨by simp [vals_len], .inr ⟨g, l.length, row8 l, rfl, hg, h, Nat.le_refl _, Nat.le_trans hm (by decide), by simp [row8, vals_len], by rw [Nat.mul_one, row8, ← vals_len l, List.take_length]⟩⟩
theorem owns_low {w : World} {b b' n : Nat} {v : Value} {xs : List Value} (h : w.ownsRow b 5 1 v n xs) (hb : b' ≤ b) : w.ownsRow b' 5 1 v n xs := by
  refine ⟨h.1, ?_⟩
  rcases h.2 with h | ⟨g, cap, cur, h1, h2, h3⟩
  · exact .inl h
  · exact .inr ⟨g, cap, cur, h1, Nat.le_trans hb h2, h3⟩
theorem row_of_owns' {w : World} {base g n cap : Nat} {l : List Nat} (hn : l.length = n) (h : w.ownsRow base 5 1 (.slice (some ⟨g, 0, none⟩) n cap) n (vals l)) (hl : ∀ x ∈ l, x < 256) : n ≤ cap ∧ Row w (some ⟨g, 0, none⟩) l := by
  subst hn
  obtain ⟨a, c, e, h1, _, h3⟩ := row_of_owns h hl
  simp at e
  obtain ⟨rfl, rfl⟩ := e
  exact ⟨h1, h3⟩
theorem slice_mid (w : World) (a : Option Addr) (n cap k h : Nat) (hk : k ≤ h) (hh : h ≤ cap) : (Instr.slice 40 (.slice a n cap) (some (.int .i64 (k : Int))) (some (.int .i64 (h : Int))) none).run Try.prog w = .ok (.slice (fromA a k cap) (h - k) (cap - k)) w := by
  rw [run_slice_lh (ht := (by rw [elem35]; exact Try.underlying40 : Try.prog.underlying 40 = some (.slice (Try.prog.elem 40)))) (kl := .i64) (kh := .i64) (l := (k : Int)) (h := (h : Int)) (h0 := by omega) (h1 := by omega) (h2 := by omega), elem35, size5]
  simp [sliced, Result.andThen, fromA]
  try omega
theorem strs_same (a b : List Nat) (ha : ∀ x ∈ a, x < 256) (hb : ∀ x ∈ b, x < 256) : ((strOf a).toList == (strOf b).toList) = decide (a = b) := by
  rw [ByteArray.toList_eq, ByteArray.toList_eq]
  by_cases h : a = b
  · subst h; simp
  · have h1 : strOf a ≠ strOf b := fun e => h ((strOf_inj ha hb).1 e)
    have h2 : (strOf a).data.toList ≠ (strOf b).data.toList := by
      intro e
      apply h1
      have : (strOf a).data = (strOf b).data := by simpa using e
      cases ha' : strOf a; cases hb' : strOf b
      simp_all
    simp [h]
    exact fun e => h2 (by rw [e])
theorem equal_any {w : World} (a b : Option Addr) (l m : List Nat) (n k c d : Nat) (hl : l.length = n) (hm : m.length = k) (hr : Row w a l) (hs : Row w b m) :
    Calls Try.prog 66 #[.slice a n c, .slice b k d] w fun e w' => e = .returned (.bool (decide (l = m))) ∧ w' = w := by
  have h1 := str_any w a l n c hl hr
  have h2 := str_any w b m k d hm hs
  have h3 := strs_same l m hr.1 hs.1
  generalize strOf l = S at *
  generalize strOf m = T at *
  generalize decide (l = m) = z at *
  clear hr hs
  go_enter Try.func66, Try.ntmps66
  go_wp2
  go_ret
  exact ⟨rfl, rfl⟩
theorem eq_nil_some (w : World) (ad : Addr) (n cap : Nat) : (binOp .eql 40 (.slice (some ad) n cap) (.slice none 0 0)).run Try.prog w = .ok (.bool false) w := by kernel_rfl
theorem eq_nil_none (w : World) : (binOp .eql 40 (.slice none 0 0) (.slice none 0 0)).run Try.prog w = .ok (.bool true) w := by kernel_rfl
theorem owns_empty (w : World) : (w.alloc (.cells #[] 5)).ownsRow w.heap.size 5 1 (.slice (some ⟨w.heap.size, 0, none⟩) 0 0) 0 (vals []) :=
  ⟨rfl, .inr ⟨w.heap.size, 0, #[], rfl, Nat.le_refl _, heap_alloc_new _ _, Nat.le_refl _, Nat.zero_le _, rfl, rfl⟩⟩
set_option maxHeartbeats 1000000 in
theorem clone_any {w : World} (ad : Addr) (l : List Nat) (n cap : Nat) (hn : l.length = n) (hr : Row w (some ad) l) (hne : l ≠ []) (hl : l.length ≤ 900000000) :
    Calls Try.prog 65 #[.slice (some ad) n cap] w fun e w' => ∃ g cap', e = .returned (.slice (some ⟨g, 0, none⟩) n cap') ∧ Row w' (some ⟨g, 0, none⟩) l ∧ Below w.heap.size w w' ∧ n ≤ cap' ∧ cap' ≤ maxLen := by
  have HN : Hid (l.length = n) := hn
  have HR : Hid (Row (w.alloc (.cells #[] 5)) (some ad) l) := hr.below ((Below.refl _ w).alloc (Nat.le_refl _) _)
  have HOW : Hid ((w.alloc (.cells #[] 5)).ownsRow w.heap.size 5 1 (.slice (some ⟨w.heap.size, 0, none⟩) 0 0) ([] : List Nat).length (vals [])) := owns_empty w
  have HS : Hid (([] : List Nat).length + l.length ≤ 1000000000) := by show _ ≤ _; simp; omega
  have HB : Hid (w.heap.size ≤ (w.alloc (.cells #[] 5)).heap.size) := by show _ ≤ _; simp
  have hlt := hr.1
  have heq := fun w => eq_nil_some w ad n cap
  clear hn hr
  go_enter Try.func65, Try.ntmps65
  have tok : True := trivial
  go_wp2_with (at_builtin; have _t := tok; refine wpList_append_row _ rfl _ _ rfl w.heap.size (.slice (some ⟨w.heap.size, 0, none⟩) 0 0) [] rfl HOW.out _ l n cap rfl HN.out HR.out hne HS.out HB.out ?_; intro g m cap' w1 hm hown1 hg1 hat; rw [List.nil_append] at hm hown1; have HX := hid hown1; have HG := hid hg1; have HM := hid hm; clear tok hm hown1 hg1 hat)
  go_ret
  have e1 := HM.out
  subst e1
  obtain ⟨a, c, e, h1, h2, h3⟩ := row_of_owns HX.out hlt
  simp at e
  obtain ⟨rfl, rfl⟩ := e
  have hb := ((Below.refl w.heap.size w).alloc (Nat.le_refl _) (.cells #[] 5)).grown HG.out HB.out (fun k hk => by simp [Value.ownBlock] at hk; omega)
  exact ⟨g, cap', by rw [← HN.out]; rfl, h3, hb, by rw [← HN.out]; exact h1, h2⟩
theorem wrap_i64 (n : Nat) (h : n < 9223372036854775808) : IntKind.i64.wrap (n : Int) = (n : Int) := by
  unfold IntKind.wrap
  simp only [show IntKind.i64.bits = 64 from rfl, show IntKind.i64.signed = true from rfl]
  have e : (n : Int) % 2 ^ 64 = (n : Int) := by omega
  rw [e]
  simp
  omega
theorem wrap_u32 (n : Nat) (h : n < 4294967296) : IntKind.u32.wrap (n : Int) = (n : Int) := by
  unfold IntKind.wrap
  simp only [show IntKind.u32.bits = 32 from rfl, show IntKind.u32.signed = false from rfl]
  simp
  omega
theorem last_or (t : List Nat) (i : Nat) (ht : ∀ x ∈ t, x < 256) (hi : i < 4) (h4 : t.length = 4) : bits .or .u32 ((le (t.take i) : Nat) : Int) (IntKind.u32.wrap (((t.getD i 0 : Nat) : Int) * 2 ^ (8 * i))) = ((le (t.take (i + 1)) : Nat) : Int) := by
  have h1 := le_lt (t.take (i + 1)) fun x hx => ht x (List.mem_of_mem_take hx)
  rw [List.length_take, Nat.min_eq_left (by omega)] at h1
  have h2 : (256 : Nat) ^ (i + 1) ≤ 256 ^ 4 := Nat.pow_le_pow_right (by decide) (by omega)
  have e8 : (256 : Nat) ^ 4 = 4294967296 := by decide
  have e3 := le_take t i (by omega)
  have e4 : (256 : Nat) ^ i = 2 ^ (8 * i) := by rw [Nat.pow_mul]
  rw [e4] at e3
  have e : (((t.getD i 0 : Nat) : Int) * 2 ^ (8 * i)) = ((t.getD i 0 * 2 ^ (8 * i) : Nat) : Int) := by push_cast; rfl
  rw [e, ← le_or t i ht (by omega)]
  rw [wrap_u32 _ (by omega)]
  exact u32_or_nat _ _ (by omega) (by omega)
theorem four_len (c : Nat) : (four c).length = 4 := rfl
theorem le_four {c : Nat} (hc : c < 4294967296) : le (four c) = c := by
  simp only [four, le]; omega
theorem ext_getD {l m : List Nat} (h : l.length = m.length) (e : ∀ j, j < l.length → l.getD j 0 = m.getD j 0) : l = m := by
  apply List.ext_getElem?
  intro j
  by_cases hj : j < l.length
  · have := e j hj
    rw [List.getD_eq_getElem?_getD, List.getD_eq_getElem?_getD, List.getElem?_eq_getElem hj, List.getElem?_eq_getElem (by omega)] at this
    rw [List.getElem?_eq_getElem hj, List.getElem?_eq_getElem (by omega)]
    exact congrArg some this
  · rw [List.getElem?_eq_none (by omega), List.getElem?_eq_none (by omega)]
theorem getD_take (l : List Nat) (a j : Nat) (h : j < a) : (l.take a).getD j 0 = l.getD j 0 := by
  simp only [List.getD_eq_getElem?_getD, List.getElem?_take, if_pos h]
theorem getD_drop (l : List Nat) (a j : Nat) : (l.drop a).getD j 0 = l.getD (a + j) 0 := by
  simp only [List.getD_eq_getElem?_getD, List.getElem?_drop]
/-- They are unlike at most in four one behind another, from a on. -/
def Near (a : Nat) (l m : List Nat) : Prop := l.length = m.length ∧ ∀ j, j < l.length → l.getD j 0 ≠ m.getD j 0 → a ≤ j ∧ j < a + 4
theorem Near.parts {a : Nat} {l m : List Nat} (h : Near a l m) : l.take a = m.take a ∧ l.drop (a + 4) = m.drop (a + 4) := by
  have hl := h.1
  constructor
  · refine ext_getD (by simp; omega) (fun j hj => ?_)
    have hj' : j < a ∧ j < l.length := by simp at hj; omega
    rw [getD_take _ _ _ hj'.1, getD_take _ _ _ hj'.1]
    by_cases e : l.getD j 0 = m.getD j 0
    · exact e
    · have := h.2 j hj'.2 e; omega
  · refine ext_getD (by simp; omega) (fun j hj => ?_)
    have hj' : a + 4 + j < l.length := by simp at hj; omega
    rw [getD_drop, getD_drop]
    by_cases e : l.getD (a + 4 + j) 0 = m.getD (a + 4 + j) 0
    · exact e
    · have := h.2 _ hj' e; omega
/-- Bytes that may be written: at block g. -/
def OwnB (w : World) (g : Nat) (Y : List Nat) : Prop := (∀ x ∈ Y, x < 256) ∧ ∃ cur : Array Value, w.heap[g]? = some (.cells cur 5 (0, 0)) ∧ ∀ j, j < Y.length → cur[j]? = some (.int .u8 (Y.getD j 0 : Nat))
theorem OwnB.cell {w : World} {g : Nat} {Y : List Nat} (h : OwnB w g Y) (j : Nat) (hj : j < Y.length) : w.cell? ⟨g, j, none⟩ = some (.int .u8 (Y.getD j 0 : Nat)) := by
  obtain ⟨_, cur, h1, h2⟩ := h
  rw [cell_of_row w g j cur 5 (0, 0) h1]
  exact h2 j hj
theorem OwnB.fr {w : World} {g : Nat} {Y : List Nat} (h : OwnB w g Y) (j : Nat) : w.frozen? ⟨g, j, none⟩ = false := by
  obtain ⟨_, cur, h1, _⟩ := h
  exact frozen_of_row w g j cur 5 h1
theorem OwnB.row {w : World} {g : Nat} {Y : List Nat} (h : OwnB w g Y) : Row w (some ⟨g, 0, none⟩) Y :=
  ⟨h.1, .inr ⟨g, 0, rfl, by obtain ⟨_, cur, h1, _⟩ := h; exact (Array.getElem?_eq_some_iff.1 h1).1, fun i hi => by rw [Nat.zero_add]; exact h.cell i hi⟩⟩
theorem getD_set_nat (Y : List Nat) (i j x : Nat) (hi : i < Y.length) : (Y.set i x).getD j 0 = if i = j then x else Y.getD j 0 := by
  simp only [List.getD_eq_getElem?_getD, List.getElem?_set]
  by_cases h : i = j
  · subst h; simp [hi]
  · simp [h]
theorem OwnB.set {w : World} {g : Nat} {Y : List Nat} (h : OwnB w g Y) (i x : Nat) (hi : i < Y.length) (hx : x < 256) : OwnB (w.setCell ⟨g, i, none⟩ (.int .u8 (x : Int))) g (Y.set i x) := by
  obtain ⟨h0, cur, h1, h2⟩ := h
  refine ⟨fun y hy => ?_, _, heap_setCell_same _ _ _ _ _ _ h1, fun j hj => ?_⟩
  · rcases List.mem_or_eq_of_mem_set hy with h | h
    · exact h0 y h
    · rw [h]; exact hx
  · rw [List.length_set] at hj
    rw [Array.getElem?_setIfInBounds, getD_set_nat Y i j x hi]
    by_cases e : i = j
    · subst e
      have hs : i < cur.size := by
        have := h2 i hj
        exact (Array.getElem?_eq_some_iff.1 this).1
      rw [if_pos rfl, if_pos rfl, if_pos hs]
    · rw [if_neg e, if_neg e]
      exact h2 j hj
theorem ownB_of {w : World} {base g n cap : Nat} {l : List Nat} (hn : l.length = n) (h : w.ownsRow base 5 1 (.slice (some ⟨g, 0, none⟩) n cap) n (vals l)) (hl : ∀ x ∈ l, x < 256) : OwnB w g l ∧ base ≤ g ∧ n ≤ cap := by
  rcases h.2 with ⟨e, _⟩ | ⟨g', cap', cur, hv, hb, hg, hc, hm, hs, ht⟩
  · simp at e
  · simp at hv
    obtain ⟨rfl, rfl⟩ := hv
    refine ⟨⟨hl, cur, hg, fun j hj => ?_⟩, hb, hc⟩
    have := vals_get l j hj
    rw [← ht, Nat.mul_one, List.getElem?_take, if_pos (by omega)] at this
    simpa using this
/-- While bytes are turned: from a on, i of them. -/
structure Turn (X Y : List Nat) (a i : Nat) (c : Bool) : Prop where
  len : Y.length = X.length
  near : ∀ j, X.getD j 0 ≠ Y.getD j 0 → a ≤ j ∧ j < a + i
  no : c = false → Y = X
  yes : c = true → ∃ j, j < a + i ∧ j < X.length ∧ X.getD j 0 ≠ Y.getD j 0
theorem turn_zero (X : List Nat) (a : Nat) : Turn X X a 0 false := ⟨rfl, fun j h => absurd rfl h, fun _ => rfl, fun h => by cases h⟩
theorem xor_ne {x y : Nat} (h : y ≠ 0) : x ≠ x ^^^ y := by
  intro e
  have : x ^^^ x = x ^^^ (x ^^^ y) := by rw [← e]
  rw [Nat.xor_self, ← Nat.xor_assoc, Nat.xor_self, Nat.zero_xor] at this
  exact h this.symm
theorem Turn.step {X Y : List Nat} {a i : Nat} {c : Bool} (h : Turn X Y a i c) (y : Nat) (hi : a + i < X.length) : Turn X (Y.set (a + i) (Y.getD (a + i) 0 ^^^ y)) a (i + 1) (c || !(y == 0)) := by
  have hl := h.len
  have hsame : X.getD (a + i) 0 = Y.getD (a + i) 0 := by
    by_cases e : X.getD (a + i) 0 = Y.getD (a + i) 0
    · exact e
    · have := h.near _ e; omega
  have hg : ∀ j, (Y.set (a + i) (Y.getD (a + i) 0 ^^^ y)).getD j 0 = if a + i = j then Y.getD (a + i) 0 ^^^ y else Y.getD j 0 := fun j => getD_set_nat Y (a + i) j _ (by omega)
  refine ⟨by rw [List.length_set, hl], fun j hj => ?_, fun hc => ?_, fun hc => ?_⟩
  · rw [hg] at hj
    by_cases e : a + i = j
    · omega
    · rw [if_neg e] at hj
      have := h.near j hj
      omega
  · have hc' : c = false ∧ y = 0 := by simpa using hc
    obtain ⟨h1, rfl⟩ := hc'
    rw [h.no h1, Nat.xor_zero]
    refine ext_getD (by simp) (fun j hj => ?_)
    rw [getD_set_nat X (a + i) j _ hi]
    by_cases e : a + i = j
    · rw [if_pos e, e]
    · rw [if_neg e]
  · by_cases h0 : y = 0
    · have h1 : c = true := by simpa [h0] using hc
      obtain ⟨j, h2, h3, h4⟩ := h.yes h1
      refine ⟨j, by omega, h3, ?_⟩
      rw [hg, if_neg (by omega)]
      exact h4
    · refine ⟨a + i, by omega, hi, ?_⟩
      rw [hg, if_pos rfl, hsame]
      exact xor_ne h0
end Go.Proofs.Yteohjfhflodklaa
