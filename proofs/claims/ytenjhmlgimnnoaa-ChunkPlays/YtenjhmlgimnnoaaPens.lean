/- What the program's Pen writes: numbers, floats, texts and bytes as the plain mathematics has them, behind what was written. Condition: together at most a thousand million bytes. -/
import Derived.Test.YtenjhmlgimnnoaaEyesB
namespace Go.Proofs.Ytenjhmlgimnnoaa.Pen
open Go.RowKit Pen
/-- Where the row of a Pen lies behind a call: where it lay, or in a new block. -/
def Where (w : World) (o o' : Option Nat) : Prop := o' = o ∨ ∃ g, o' = some g ∧ w.heap.size ≤ g
theorem where_trans {w w1 : World} {o o1 o2 : Option Nat} (hs : w.heap.size ≤ w1.heap.size) (h : Where w o o1) (h1 : Where w1 o1 o2) : Where w o o2 := by
  rcases h1 with rfl | ⟨g, rfl, hg⟩
  · exact h
  · exact .inr ⟨g, rfl, Nat.le_trans hs hg⟩
theorem row1 (w : World) (b : Nat) (hb : b < 256) : Row (w.alloc (.cells #[.int .u8 (b : Int)] 5)) (some ⟨w.heap.size, 0, none⟩) [b] := row_new w [b] (by simpa using hb) 5 (0, 0)
theorem pen_app {base : Nat} {w w1 : World} {q g m cap' : Nat} {v : Value} {l l' : List Nat} (tmp : Obj) (hv : Boxed w q 69 v) (hown : w.ownsRow base 5 1 v l.length (vals l)) (hq : base ≤ q) (hl' : ∀ x ∈ l', x < 256) (hm : l'.length = m)
    (hown1 : w1.ownsRow base 5 1 (.slice (some ⟨g, 0, none⟩) m cap') m (vals l')) (hg1 : (w.alloc tmp).grownBy w1 v.ownBlock) (hat : v.ownBlock = some g ∨ (w.alloc tmp).heap.size ≤ g) :
    Boxed w1 q 69 v ∧ Hid (∃ o', PenAt base (w1.setCell ⟨q, 0, none⟩ (.slice (some ⟨g, 0, none⟩) m cap')) q o' l' ∧ Only q v.ownBlock w (w1.setCell ⟨q, 0, none⟩ (.slice (some ⟨g, 0, none⟩) m cap')) ∧ Where w v.ownBlock o') := by
  obtain ⟨h1, h2, h3⟩ := PenAt.grown (hv.alloc tmp) (hown.alloc tmp) hq hg1 hm hown1 hl'
  refine ⟨h1, _, h2, (Only.of_below ((Below.refl _ w).alloc (Nat.le_refl _) tmp)).trans h3 (.inl rfl), ?_⟩
  rcases hat with h | h
  · exact .inl h.symm
  · exact .inr ⟨g, rfl, by simp at h; omega⟩
theorem lt_app {a b : List Nat} (ha : ∀ x ∈ a, x < 256) (hb : ∀ x ∈ b, x < 256) : ∀ x ∈ a ++ b, x < 256 := by
  intro x hx
  rcases List.mem_append.1 hx with h | h
  · exact ha x h
  · exact hb x h
theorem lt_one {b : Nat} (hb : b < 256) : ∀ x ∈ [b], x < 256 := by
  intro x hx
  simp at hx
  omega
set_option maxHeartbeats 1000000 in
theorem wbyte_any {base : Nat} {w : World} {q : Nat} {o : Option Nat} {l : List Nat} (b : Nat) (hb : b < 256) (hl : l.length ≤ 900000000) (h : PenAt base w q o l) :
    Calls Try.prog 44 #[.pointer (some ⟨q, 0, none⟩), .int .u8 (b : Int)] w fun e w' => e = .returned (.tuple #[]) ∧ ∃ o', PenAt base w' q o' (l ++ [b]) ∧ Only q o w w' ∧ Where w o o' := by
  have hbase := h.own.2.1
  obtain ⟨v, hv, hown, rfl, hq, hl2⟩ := h
  obtain ⟨a, cap, rfl, _, _, _⟩ := row_of_owns hown hl2
  have hc := hv.cell
  have HV : Hid (Boxed w q 69 (.slice a l.length cap)) := hv
  have HR : Hid (Row (w.alloc (.cells #[.int .u8 (b : Int)] 5)) (some ⟨w.heap.size, 0, none⟩) [b]) := row1 w b hb
  have HOW : Hid (w.ownsRow base 5 1 (.slice a l.length cap) l.length (vals l)) := hown
  have HS : Hid (l.length + [b].length ≤ 1000000000) := by show _ ≤ _; simp; omega
  have HB : Hid (base ≤ (w.alloc (.cells #[.int .u8 (b : Int)] 5)).heap.size) := by show _ ≤ _; simp; omega
  have HL : Hid (∀ x ∈ l ++ [b], x < 256) := lt_app hl2 (lt_one hb)
  clear hown hv hl2
  go_enter Try.func44, Try.ntmps44
  have tok : True := trivial
  go_wp2_with (at_builtin; have _t := tok; refine wpList_append_row _ rfl _ _ rfl base (.slice a l.length cap) l rfl (HOW.out.alloc _) _ [b] 1 1 rfl rfl HR.out (by simp) HS.out HB.out ?_; intro g m cap' w1 hm hown1 hg1 hat; have hbx := pen_app _ HV.out HOW.out hq HL.out hm hown1 hg1 hat; have hc1 := hbx.1.cell; have hf1 := hbx.1.frozen; have HBX := hbx.2; clear tok hbx hat hown1 hg1 hm)
  go_end0
  exact ⟨rfl, HBX.out⟩
theorem or128 (m : Nat) : bits .or .u8 ((m : Int) % 256) 128 = ((m % 128 + 128 : Nat) : Int) := by
  have h := u8_or_nat (m % 256) 128 (by omega) (by decide)
  have e : ∀ y : Fin 256, y.val ||| 128 = y.val % 128 + 128 := by decide +kernel
  have e2 : m % 256 ||| 128 = m % 256 % 128 + 128 := e ⟨m % 256, by omega⟩
  rw [e2, show m % 256 % 128 = m % 128 by omega] at h
  rw [show ((m % 256 : Nat) : Int) = (m : Int) % 256 by omega] at h
  exact h
set_option maxHeartbeats 1000000 in
theorem wnum_nat {base : Nat} {w : World} {q : Nat} {o : Option Nat} {l : List Nat} (n : Nat) (hn : n < 9223372036854775808) (hl : l.length ≤ 800000000) (h : PenAt base w q o l) :
    Calls Try.prog 30 #[.pointer (some ⟨q, 0, none⟩), .int .i64 (n : Int)] w fun e w' => e = .returned (.tuple #[]) ∧ ∃ o', PenAt base w' q o' (l ++ num n) ∧ Only q o w w' ∧ Where w o o' := by
  have HP : Hid (PenAt base w q o l) := h
  have hlen := num_len10 n hn
  clear h
  go_enter Try.func30, Try.ntmps30
  go_wp2_with fail
  go_loopg [4] (num n).length (fun k u wr => ∃ (m : Nat) (pre : List Nat) (o' : Option Nat), (num m).length = k ∧ u = .int .u64 (m : Int) ∧ m < 9223372036854775808 ∧ pre ++ num m = num n ∧ PenAt base wr q o' (l ++ pre) ∧ Only q o w wr ∧ Where w o o')
  case atStart => exact ⟨n, [], o, rfl, rfl, hn, rfl, by simpa using HP.out, Only.refl _ _ _, .inl rfl⟩
  case round =>
    obtain ⟨m, pre, o', hk, rfl, hm, hpre, hp, ho, hw⟩ := hrel
    have HK : Hid ((num m).length = gk) := hk
    have HPre : Hid (pre ++ num m = num n) := hpre
    have HP2 : Hid (PenAt base wr q o' (l ++ pre)) := hp
    have HO : Hid (Only q o w wr) := ho
    have HW : Hid (Where w o o') := hw
    have HL : Hid ((l ++ pre).length ≤ 900000000) := by
      show _ ≤ _
      have := congrArg List.length hpre
      simp at this ⊢
      omega
    clear hk hpre hp ho hw
    by_cases h128 : 128 ≤ m
    · have g1 : (128 : Int) ≤ (m : Int) := by omega
      have hor := or128 m
      go_wp2_with fail
      refine (wbyte_any (m % 128 + 128) (by omega) HL.out HP2.out).mono ?_
      rintro e w1 ⟨rfl, o2, hp1, ho1, hw1⟩
      go_wp2_with fail
      go_roundg (gk - 1)
      case measure => have := HK.out; have := num_len_pos m; omega
      case rel =>
        have e1 := num_big h128
        have e2 := HK.out
        have e3 := HPre.out
        rw [e1] at e2 e3
        refine ⟨m / 128, pre ++ [m % 128 + 128], o2, by simp at e2; omega, by go_num, by omega, by simpa using e3, by simpa using hp1, ?_, ?_⟩
        · exact HO.out.trans ho1 HW.out
        · exact where_trans HO.out.size HW.out hw1
    · have g1 : ¬ (128 : Int) ≤ (m : Int) := by omega
      have hb : (m : Int) % 256 = (m : Int) := by omega
      go_wp2_with fail
      refine (wbyte_any m (by omega) HL.out HP2.out).mono ?_
      rintro e w1 ⟨rfl, o2, hp1, ho1, hw1⟩
      go_wp2_with fail
      go_end0
      have e1 := num_small (n := m) (by omega)
      have e3 := HPre.out
      rw [e1] at e3
      refine ⟨rfl, o2, by rw [← e3]; simpa using hp1, HO.out.trans ho1 HW.out, where_trans HO.out.size HW.out hw1⟩
set_option maxHeartbeats 1000000 in
theorem wnum_neg {base : Nat} {w : World} {q : Nat} {o : Option Nat} {l : List Nat} (z : Int) (hz : z < 0) (hl : l.length ≤ 800000000) (h : PenAt base w q o l) :
    Calls Try.prog 30 #[.pointer (some ⟨q, 0, none⟩), .int .i64 z] w fun e w' => e = .returned (.tuple #[]) ∧ ∃ o', PenAt base w' q o' (l ++ num 0) ∧ Only q o w w' ∧ Where w o o' := by
  have HP : Hid (PenAt base w q o l) := h
  have e0 : num 0 = [0] := num_small (by decide)
  rw [e0]
  clear h
  go_enter Try.func30, Try.ntmps30
  go_wp2_with fail
  go_loopg [4] 0 (fun k u wr => k = 0 ∧ u = .int .u64 0 ∧ wr = w)
  case atStart => exact ⟨rfl, by simp, rfl⟩
  case round =>
    obtain ⟨rfl, rfl, rfl⟩ := hrel
    go_wp2_with fail
    refine (wbyte_any 0 (by omega) (by omega) HP.out).mono ?_
    rintro e w1 ⟨rfl, hp1⟩
    go_wp2_with fail
    go_end0
    exact ⟨rfl, hp1⟩
theorem wnum_any {base : Nat} {w : World} {q : Nat} {o : Option Nat} {l : List Nat} (z : Int) (hz : z < 9223372036854775808) (hl : l.length ≤ 800000000) (h : PenAt base w q o l) :
    Calls Try.prog 30 #[.pointer (some ⟨q, 0, none⟩), .int .i64 z] w fun e w' => e = .returned (.tuple #[]) ∧ ∃ o', PenAt base w' q o' (l ++ num z.toNat) ∧ Only q o w w' ∧ Where w o o' := by
  by_cases h0 : z < 0
  · rw [show z.toNat = 0 by omega]
    exact wnum_neg z h0 hl h
  · have := wnum_nat z.toNat (by omega) hl h
    rw [show ((z.toNat : Nat) : Int) = z by omega] at this
    exact this
set_option maxHeartbeats 1000000 in
theorem wtext_any {base : Nat} {w : World} {q : Nat} {o : Option Nat} {l : List Nat} (s : ByteArray) (hs : s.size ≤ 100000000) (hl : l.length ≤ 800000000) (h : PenAt base w q o l) :
    Calls Try.prog 31 #[.pointer (some ⟨q, 0, none⟩), .string s] w fun e w' => e = .returned (.tuple #[]) ∧ ∃ o', PenAt base w' q o' (l ++ text (lst s)) ∧ Only q o w w' := by
  have kn := wnum_nat s.size (by omega) hl h
  have HE : Hid (text (lst s) = num s.size ++ lst s) := by show _ = _; rw [text, lst_len]
  have hsl := lst_len s
  clear h
  go_enter Try.func31, Try.ntmps31
  go_wp2_with fail
  refine kn.mono ?_
  rintro e w1 ⟨rfl, o1, hp1, ho1, hw1⟩
  have HO1 : Hid (Only q o w w1) := ho1
  have HW1 : Hid (Where w o o1) := hw1
  have hbase := hp1.own.2.1
  obtain ⟨v, hv, hown, rfl, hq, hl2⟩ := hp1
  obtain ⟨a, cap, rfl, _, _, _⟩ := row_of_owns hown hl2
  have hlen := num_len10 s.size (by omega)
  have hpos := num_len_pos s.size
  obtain ⟨m, hm⟩ : ∃ m, (l ++ num s.size).length = m := ⟨_, rfl⟩
  have HM : Hid ((l ++ num s.size).length = m) := hm
  rw [hm] at hown hv HW1
  have hm1 : m ≤ 900000000 ∧ 0 < m := by rw [List.length_append] at hm; omega
  have hc := hv.cell
  have HV : Hid (Boxed w1 q 69 (.slice a m cap)) := hv
  have HOW : Hid (w1.ownsRow base 5 1 (.slice a m cap) m (vals (l ++ num s.size))) := hown
  have HS1 : Hid (m + s.size ≤ maxLen) := by show _ ≤ _; unfold maxLen; omega
  have HS2 : Hid (m + s.size ≤ 140737488355328) := by show _ ≤ _; omega
  have HL : Hid (∀ x ∈ (l ++ num s.size) ++ lst s, x < 256) := lt_app hl2 (lst_lt s)
  have hst : Lib.strCells s = vals (lst s) := by
    have := strOf_cells (lst s) (lst_lt s)
    rwa [strOf_lst] at this
  have HST : Hid (Lib.strCells s = vals (lst s)) := hst
  clear hown hv hl2 ho1 hw1 hst hm kn
  obtain ⟨i5, hi5, hz5, hs5, hy5⟩ := info5'
  have HI : Hid (Try.prog.info? 5 = some i5 ∧ i5.zero = some (.int .u8 0) ∧ i5.size = 1 ∧ i5.bytes = 1) := ⟨hi5, hz5, hs5, hy5⟩
  clear hi5 hz5 hs5 hy5
  have tok : True := trivial
  go_wp2_with (at_builtin; have _t := tok; refine Lib.wpList_append_own_string _ rfl _ _ 27 9 rfl base 5 i5 Try.underlying27 Try.underlying9 HI.out.1 HI.out.2.1 HI.out.2.2.1 HI.out.2.2.2 (.slice a m cap) m _ rfl HOW.out s rfl HS1.out HS2.out hbase ?_; intro v' w2 hown2 hg2 _; obtain ⟨g, cap', rfl, _, _⟩ := hown2.form (by omega); rw [HST.out, ← vals_app] at hown2; have hbx := PenAt.grown (l := l ++ num s.size) HV.out (by rw [HM.out]; exact HOW.out) hq hg2 (by rw [List.length_append, HM.out, hsl]) hown2 HL.out; have hc1 := hbx.1.cell; have hf1 := hbx.1.frozen; have HBX := hid hbx.2; clear tok hbx hown2 hg2)
  go_end0
  refine ⟨rfl, _, by rw [HE.out, ← List.append_assoc]; exact HBX.out.1, HO1.out.trans HBX.out.2 HW1.out⟩
end Go.Proofs.Ytenjhmlgimnnoaa.Pen
