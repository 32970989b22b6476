/- What the document's own answer writes: the same bytes as the plain mathematics has, in a row of its own. Condition: a text of at most a hundred million bytes. -/
import Derived.Test.YtmfmhlhpleahpaaOut
namespace Go.Proofs.Ytmfmhlhpleahpaa.Pen
open Go.RowKit Pen
/-- What a call hands out: a row of its own. -/
def Hands (W w' : World) (e : Ending) (l : List Nat) : Prop :=
  ∃ g cap, e = .returned (.slice (some ⟨g, 0, none⟩) l.length cap) ∧ w'.ownsRow W.heap.size 5 1 (.slice (some ⟨g, 0, none⟩) l.length cap) l.length (vals l) ∧ Below W.heap.size W w'
/-- An append to a row of the call's own. -/
theorem own_app {W w1 w2 : World} {v : Value} {l1 l2 : List Nat} {g m cap : Nat} (tmp : Obj) (hb : Below W.heap.size W w1) (hown : w1.ownsRow W.heap.size 5 1 v l1.length (vals l1))
    (hg : (w1.alloc tmp).grownBy w2 v.ownBlock) (hown2 : w2.ownsRow W.heap.size 5 1 (.slice (some ⟨g, 0, none⟩) m cap) m (vals (l1 ++ l2))) :
    Hid (w2.ownsRow W.heap.size 5 1 (.slice (some ⟨g, 0, none⟩) m cap) m (vals (l1 ++ l2)) ∧ Below W.heap.size W w2) := by
  refine ⟨hown2, (hb.alloc hb.size tmp).grown hg (by have := hb.size; simp; omega) ?_⟩
  rcases hown.2 with ⟨rfl, _⟩ | ⟨g', cap', cur, rfl, hb', _⟩
  · intro k hk; simp [Value.ownBlock] at hk
  · intro k hk; simp [Value.ownBlock] at hk; omega
theorem row_one (w : World) (z : Int) (b : Nat) (hz : z = (b : Int)) (hb : b < 256) : Row (w.alloc (.cells #[.int .u8 z] 5)) (some ⟨w.heap.size, 0, none⟩) [b] := by
  subst hz
  exact row1 w b hb
set_option maxHeartbeats 1000000 in
theorem rnum_nat (W : World) (n : Nat) (hn : n < 9223372036854775808) : Calls Try.prog 32 #[.int .i64 (n : Int)] W fun e w' => Hands W w' e (num n) := by
  have hlen := num_len10 n hn
  go_enter Try.func32, Try.ntmps32
  go_wp2_with fail
  go_loopg [0, 3] (num n).length (fun k u v wr => ∃ (m : Nat) (pre : List Nat), (num m).length = k ∧ u = .int .i64 (m : Int) ∧ m < 9223372036854775808 ∧ pre ++ num m = num n ∧ wr.ownsRow W.heap.size 5 1 v pre.length (vals pre) ∧ Below W.heap.size W wr)
  case atStart => exact ⟨n, [], rfl, rfl, hn, rfl, World.ownsRow_nil W _ 5 1, Below.refl _ _⟩
  case round =>
    obtain ⟨m, pre, hk, rfl, hm, hpre, hown, hb⟩ := hrel
    have HK : Hid ((num m).length = gk) := hk
    have HPre : Hid (pre ++ num m = num n) := hpre
    have HOW := hid hown
    have HB := hid hb
    have hpl : pre.length ≤ 10 := by have := congrArg List.length hpre; simp at this; omega
    clear hk hpre hown hb
    by_cases h128 : 128 ≤ m
    · have g1 : (128 : Int) ≤ (m : Int) := by omega
      have HR : Hid (Row (wr.alloc (.cells #[.int .u8 ((m : Int) % 128 + 128)] 5)) (some ⟨wr.heap.size, 0, none⟩) [m % 128 + 128]) := row_one wr _ _ (by omega) (by omega)
      have HS : Hid (pre.length + [m % 128 + 128].length ≤ 1000000000) := by show _ ≤ _; simp; omega
      have HZ : Hid (W.heap.size ≤ (wr.alloc (.cells #[.int .u8 ((m : Int) % 128 + 128)] 5)).heap.size) := by have := HB.out.size; show _ ≤ _; simp; omega
      have tok : True := trivial
      go_wp2_with (at_builtin; have _t := tok; refine wpList_append_row _ rfl _ _ rfl W.heap.size u3 pre rfl (HOW.out.alloc _) _ [m % 128 + 128] 1 1 rfl rfl HR.out (by simp) HS.out HZ.out ?_; intro g k cap' w2 hk hown2 hg2 _; have HX := own_app _ HB.out HOW.out hg2 hown2; have HKK := hid hk; clear tok hown2 hg2 hk)
      go_roundg (gk - 1)
      case measure => have := HK.out; have := num_len_pos m; omega
      case rel =>
        have e2 := HK.out
        have e3 := HPre.out
        rw [num_big h128] at e2 e3
        exact ⟨m / 128, pre ++ [m % 128 + 128], by simp at e2; omega, by go_num, by omega, by simpa using e3, by rw [HKK.out]; exact HX.out.1, HX.out.2⟩
    · have g1 : ¬ (128 : Int) ≤ (m : Int) := by omega
      have hb : (m : Int) % 256 = (m : Int) := by omega
      have HR : Hid (Row (wr.alloc (.cells #[.int .u8 (m : Int)] 5)) (some ⟨wr.heap.size, 0, none⟩) [m]) := row_one wr _ _ rfl (by omega)
      have HS : Hid (pre.length + [m].length ≤ 1000000000) := by show _ ≤ _; simp; omega
      have HZ : Hid (W.heap.size ≤ (wr.alloc (.cells #[.int .u8 (m : Int)] 5)).heap.size) := by have := HB.out.size; show _ ≤ _; simp; omega
      have tok : True := trivial
      go_wp2_with (at_builtin; have _t := tok; refine wpList_append_row _ rfl _ _ rfl W.heap.size u3 pre rfl (HOW.out.alloc _) _ [m] 1 1 rfl rfl HR.out (by simp) HS.out HZ.out ?_; intro g k cap' w2 hk hown2 hg2 _; have HX := own_app _ HB.out HOW.out hg2 hown2; have HKK := hid hk; clear tok hown2 hg2 hk)
      go_ret
      have e3 := HPre.out
      rw [num_small (by omega)] at e3
      rw [← e3]
      exact ⟨g, cap', by rw [HKK.out]; rfl, by rw [HKK.out]; exact HX.out.1, HX.out.2⟩
set_option maxHeartbeats 1000000 in
theorem rnum_neg (W : World) (z : Int) (hz : z < 0) : Calls Try.prog 32 #[.int .i64 z] W fun e w' => Hands W w' e (num 0) := by
  have e0 : num 0 = [0] := num_small (by decide)
  rw [e0]
  go_enter Try.func32, Try.ntmps32
  go_wp2_with fail
  go_loopg [0, 3] 0 (fun k u v wr => k = 0 ∧ u = .int .i64 0 ∧ v = .slice none 0 0 ∧ wr = W)
  case atStart => exact ⟨rfl, by simp, rfl, rfl⟩
  case round =>
    obtain ⟨rfl, rfl, rfl, rfl⟩ := hrel
    have HR : Hid (Row (wr.alloc (.cells #[.int .u8 0] 5)) (some ⟨wr.heap.size, 0, none⟩) [0]) := row_one wr _ _ rfl (by omega)
    have HO : Hid (wr.ownsRow wr.heap.size 5 1 (.slice none 0 0) ([] : List Nat).length (vals [])) := World.ownsRow_nil wr _ 5 1
    have HZ : Hid (wr.heap.size ≤ (wr.alloc (.cells #[.int .u8 0] 5)).heap.size) := by show _ ≤ _; simp
    have tok : True := trivial
    go_wp2_with (at_builtin; have _t := tok; refine wpList_append_row _ rfl _ _ rfl wr.heap.size (.slice none 0 0) [] rfl (HO.out.alloc _) _ [0] 1 1 rfl rfl HR.out (by simp) (by decide) HZ.out ?_; intro g k cap' w2 hk hown2 hg2 _; have HX := own_app _ (Below.refl _ _) HO.out hg2 hown2; have HKK := hid hk; clear tok hown2 hg2 hk)
    go_ret
    exact ⟨g, cap', by rw [show ([0] : List Nat).length = k from HKK.out]; rfl, by rw [show ([0] : List Nat).length = k from HKK.out]; exact HX.out.1, HX.out.2⟩
theorem rnum_any (W : World) (z : Int) (hz : z < 9223372036854775808) : Calls Try.prog 32 #[.int .i64 z] W fun e w' => Hands W w' e (num z.toNat) := by
  by_cases h0 : z < 0
  · rw [show z.toNat = 0 by omega]
    exact rnum_neg W z h0
  · have := rnum_nat W z.toNat (by omega)
    rw [show ((z.toNat : Nat) : Int) = z by omega] at this
    exact this
end Go.Proofs.Ytmfmhlhpleahpaa.Pen
