/- What the document's own answer writes: the same bytes as the plain mathematics has, in a row of its own. Condition: a text of at most a hundred million bytes. -/
import Derived.Test.YtenjhmlgimnnoaaOut
namespace Go.Proofs.Ytenjhmlgimnnoaa.Pen
open Go.RowKit Pen
theorem bytes_at {base : Nat} {w W : World} {q : Nat} {o : Option Nat} {l : List Nat} {n : Nat} (hn : l.length = n) (hne : l ≠ []) (hl : l.length ≤ 900000000) (h : PenAt base w q o l) (hW : Below w.heap.size w W) :
    Calls Try.prog 32 #[.pointer (some ⟨q, 0, none⟩)] W fun e w' => ∃ g cap', e = .returned (.slice (some ⟨g, 0, none⟩) n cap') ∧ Below w.heap.size w w' ∧ Below W.heap.size W w' ∧ Below w'.heap.size w' w' ∧ Row w' (some ⟨g, 0, none⟩) l := by
  subst hn
  refine (bytes_any hne hl (h.below hW)).mono ?_
  rintro e w' ⟨g, cap', rfl, h1, h2, _, _⟩
  exact ⟨g, cap', rfl, hW.trans (h2.mono hW.size), h2, Below.refl _ _, h1⟩
/-- What a call hands out: a row of its own. -/
def Hands (W w' : World) (e : Ending) (l : List Nat) : Prop :=
  ∃ g cap, e = .returned (.slice (some ⟨g, 0, none⟩) l.length cap) ∧ w'.ownsRow W.heap.size 5 1 (.slice (some ⟨g, 0, none⟩) l.length cap) l.length (vals l) ∧ Below W.heap.size W w'
/-- An append to a row of the call's own. -/
theorem own_app {W w1 w2 : World} {v : Value} {l1 l2 : List Nat} {g m cap : Nat} (tmp : Obj) (hb : Below W.heap.size W w1) (hown : w1.ownsRow W.heap.size 5 1 v l1.length (vals l1))
    (hg : (w1.alloc tmp).grownBy w2 v.ownBlock) (hown2 : w2.ownsRow W.heap.size 5 1 (.slice (some ⟨g, 0, none⟩) m cap) m (vals (l1 ++ l2))) :
    Hid (w2.ownsRow W.heap.size 5 1 (.slice (some ⟨g, 0, none⟩) m cap) m (vals (l1 ++ l2)) ∧ Below W.heap.size W w2) := by
  refine ⟨hown2, (hb.alloc hb.size tmp).grown hg (by have := hb.size; simp; omega) ?_⟩
  rcases hown.2 with ⟨rfl, _⟩ | ⟨g', cap', cur, rfl, hb', _⟩
  · intro k hk; simp [Value.ownBlock] at hk
  · intro k hk; simp [Value.ownBlock] at hk; omega
theorem row_one (w : World) (z : Int) (b : Nat) (hz : z = (b : Int)) (hb : b < 256) : Row (w.alloc (.cells #[.int .u8 z] 5)) (some ⟨w.heap.size, 0, none⟩) [b] := by
  subst hz
  exact row1 w b hb
set_option maxHeartbeats 1000000 in
theorem rnum_nat (W : World) (n : Nat) (hn : n < 9223372036854775808) : Calls Try.prog 18 #[.int .i64 (n : Int)] W fun e w' => Hands W w' e (num n) := by
  have hlen := num_len10 n hn
  go_enter Try.func18, Try.ntmps18
  go_wp2_with fail
  go_loopg [0, 3] (num n).length (fun k u v wr => ∃ (m : Nat) (pre : List Nat), (num m).length = k ∧ u = .int .i64 (m : Int) ∧ m < 9223372036854775808 ∧ pre ++ num m = num n ∧ wr.ownsRow W.heap.size 5 1 v pre.length (vals pre) ∧ Below W.heap.size W wr)
  case atStart => exact ⟨n, [], rfl, rfl, hn, rfl, World.ownsRow_nil W _ 5 1, Below.refl _ _⟩
  case round =>
    obtain ⟨m, pre, hk, rfl, hm, hpre, hown, hb⟩ := hrel
    have HK : Hid ((num m).length = gk) := hk
    have HPre : Hid (pre ++ num m = num n) := hpre
    have HOW := hid hown
    have HB := hid hb
    have hpl : pre.length ≤ 10 := by have := congrArg List.length hpre; simp at this; omega
    clear hk hpre hown hb
    by_cases h128 : 128 ≤ m
    · have g1 : (128 : Int) ≤ (m : Int) := by omega
      have HR : Hid (Row (wr.alloc (.cells #[.int .u8 ((m : Int) % 128 + 128)] 5)) (some ⟨wr.heap.size, 0, none⟩) [m % 128 + 128]) := row_one wr _ _ (by omega) (by omega)
      have HS : Hid (pre.length + [m % 128 + 128].length ≤ 1000000000) := by show _ ≤ _; simp; omega
      have HZ : Hid (W.heap.size ≤ (wr.alloc (.cells #[.int .u8 ((m : Int) % 128 + 128)] 5)).heap.size) := by have := HB.out.size; show _ ≤ _; simp; omega
      have tok : True := trivial
      go_wp2_with (at_builtin; have _t := tok; refine wpList_append_row _ rfl _ _ rfl W.heap.size u3 pre rfl (HOW.out.alloc _) _ [m % 128 + 128] 1 1 rfl rfl HR.out (by simp) HS.out HZ.out ?_; intro g k cap' w2 hk hown2 hg2 _; have HX := own_app _ HB.out HOW.out hg2 hown2; have HKK := hid hk; clear tok hown2 hg2 hk)
      go_roundg (gk - 1)
      case measure => have := HK.out; have := num_len_pos m; omega
      case rel =>
        have e2 := HK.out
        have e3 := HPre.out
        rw [num_big h128] at e2 e3
        exact ⟨m / 128, pre ++ [m % 128 + 128], by simp at e2; omega, by go_num, by omega, by simpa using e3, by rw [HKK.out]; exact HX.out.1, HX.out.2⟩
    · have g1 : ¬ (128 : Int) ≤ (m : Int) := by omega
      have hb : (m : Int) % 256 = (m : Int) := by omega
      have HR : Hid (Row (wr.alloc (.cells #[.int .u8 (m : Int)] 5)) (some ⟨wr.heap.size, 0, none⟩) [m]) := row_one wr _ _ rfl (by omega)
      have HS : Hid (pre.length + [m].length ≤ 1000000000) := by show _ ≤ _; simp; omega
      have HZ : Hid (W.heap.size ≤ (wr.alloc (.cells #[.int .u8 (m : Int)] 5)).heap.size) := by have := HB.out.size; show _ ≤ _; simp; omega
      have tok : True := trivial
      go_wp2_with (at_builtin; have _t := tok; refine wpList_append_row _ rfl _ _ rfl W.heap.size u3 pre rfl (HOW.out.alloc _) _ [m] 1 1 rfl rfl HR.out (by simp) HS.out HZ.out ?_; intro g k cap' w2 hk hown2 hg2 _; have HX := own_app _ HB.out HOW.out hg2 hown2; have HKK := hid hk; clear tok hown2 hg2 hk)
      go_ret
      have e3 := HPre.out
      rw [num_small (by omega)] at e3
      rw [← e3]
      exact ⟨g, cap', by rw [HKK.out]; rfl, by rw [HKK.out]; exact HX.out.1, HX.out.2⟩
set_option maxHeartbeats 1000000 in
theorem rnum_neg (W : World) (z : Int) (hz : z < 0) : Calls Try.prog 18 #[.int .i64 z] W fun e w' => Hands W w' e (num 0) := by
  have e0 : num 0 = [0] := num_small (by decide)
  rw [e0]
  go_enter Try.func18, Try.ntmps18
  go_wp2_with fail
  go_loopg [0, 3] 0 (fun k u v wr => k = 0 ∧ u = .int .i64 0 ∧ v = .slice none 0 0 ∧ wr = W)
  case atStart => exact ⟨rfl, by simp, rfl, rfl⟩
  case round =>
    obtain ⟨rfl, rfl, rfl, rfl⟩ := hrel
    have HR : Hid (Row (wr.alloc (.cells #[.int .u8 0] 5)) (some ⟨wr.heap.size, 0, none⟩) [0]) := row_one wr _ _ rfl (by omega)
    have HO : Hid (wr.ownsRow wr.heap.size 5 1 (.slice none 0 0) ([] : List Nat).length (vals [])) := World.ownsRow_nil wr _ 5 1
    have HZ : Hid (wr.heap.size ≤ (wr.alloc (.cells #[.int .u8 0] 5)).heap.size) := by show _ ≤ _; simp
    have tok : True := trivial
    go_wp2_with (at_builtin; have _t := tok; refine wpList_append_row _ rfl _ _ rfl wr.heap.size (.slice none 0 0) [] rfl (HO.out.alloc _) _ [0] 1 1 rfl rfl HR.out (by simp) (by decide) HZ.out ?_; intro g k cap' w2 hk hown2 hg2 _; have HX := own_app _ (Below.refl _ _) HO.out hg2 hown2; have HKK := hid hk; clear tok hown2 hg2 hk)
    go_ret
    exact ⟨g, cap', by rw [show ([0] : List Nat).length = k from HKK.out]; rfl, by rw [show ([0] : List Nat).length = k from HKK.out]; exact HX.out.1, HX.out.2⟩
theorem rnum_any (W : World) (z : Int) (hz : z < 9223372036854775808) : Calls Try.prog 18 #[.int .i64 z] W fun e w' => Hands W w' e (num z.toNat) := by
  by_cases h0 : z < 0
  · rw [show z.toNat = 0 by omega]
    exact rnum_neg W z h0
  · have := rnum_nat W z.toNat (by omega)
    rw [show ((z.toNat : Nat) : Int) = z by omega] at this
    exact this
set_option maxHeartbeats 1000000 in
theorem rtext_any (W : World) (s : ByteArray) (hs : s.size ≤ 100000000) : Calls Try.prog 19 #[.string s] W fun e w' => Hands W w' e (text (lst s)) := by
  have kn := rnum_nat W s.size (by omega)
  have HE : Hid (text (lst s) = num s.size ++ lst s) := by show _ = _; rw [text, lst_len]
  have hsl := lst_len s
  have hlen := num_len10 s.size (by omega)
  have hpos := num_len_pos s.size
  have hst : Lib.strCells s = vals (lst s) := by
    have := strOf_cells (lst s) (lst_lt s)
    rwa [strOf_lst] at this
  have HST : Hid (Lib.strCells s = vals (lst s)) := hst
  obtain ⟨m, hm⟩ : ∃ m, (num s.size).length = m := ⟨_, rfl⟩
  have HM := hid hm
  rw [hm] at hlen hpos
  unfold Hands at kn
  rw [hm] at kn
  clear hst hm
  obtain ⟨i5, hi5, hz5, hs5, hy5⟩ := info5'
  have HI : Hid (Try.prog.info? 5 = some i5 ∧ i5.zero = some (.int .u8 0) ∧ i5.size = 1 ∧ i5.bytes = 1) := ⟨hi5, hz5, hs5, hy5⟩
  clear hi5 hz5 hs5 hy5
  go_enter Try.func19, Try.ntmps19
  go_wp2_with fail
  refine kn.mono ?_
  rintro e w1 ⟨g1, cap1, rfl, hown, hb⟩
  have HOW := hid hown
  have HB := hid hb
  have HS1 : Hid (m + s.size ≤ maxLen) := by show _ ≤ _; unfold maxLen; omega
  have HS2 : Hid (m + s.size ≤ 140737488355328) := by show _ ≤ _; omega
  have HZ : Hid (W.heap.size ≤ w1.heap.size) := hb.size
  clear hown hb kn
  have tok : True := trivial
  go_wp2_with (at_builtin; have _t := tok; refine Lib.wpList_append_own_string _ rfl _ _ 27 9 rfl W.heap.size 5 i5 Try.underlying27 Try.underlying9 HI.out.1 HI.out.2.1 HI.out.2.2.1 HI.out.2.2.2 (.slice (some ⟨g1, 0, none⟩) m cap1) m _ rfl HOW.out s rfl HS1.out HS2.out HZ.out ?_; intro v' w2 hown2 hg2 _; obtain ⟨g, cap', rfl, _, _⟩ := hown2.form (by omega); rw [HST.out, ← vals_app] at hown2; have HX := hid hown2; have HG := hid hg2; clear tok hown2 hg2)
  go_ret
  have e1 : (num s.size ++ lst s).length = m + s.size := by rw [List.length_append, HM.out, hsl]
  have hb2 := HB.out.grown HG.out HZ.out (fun k hk => by
    simp [Value.ownBlock] at hk
    rcases HOW.out.2 with ⟨h, _⟩ | ⟨g', cap', cur, h, hb', _⟩
    · simp at h
    · simp at h; omega)
  refine ⟨g, cap', ?_, ?_, hb2⟩
  · rw [HE.out, e1]; rfl
  · rw [HE.out, e1]; exact HX.out
end Go.Proofs.Ytenjhmlgimnnoaa.Pen
