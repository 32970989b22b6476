/- What packed of log does: the bytes of a sector. Condition: a boot below 2^32, a part of at most 54 bytes. -/
import Derived.Test.YteohjfhflodklaaLogB
import Derived.Deep.RegionHeldLaw
import Derived.Deep.RegionHeld
namespace Go.Proofs.Yteohjfhflodklaa
open Go.RowKit Pen
open Crc (four nx run)
set_option maxRecDepth 4000
/-- Bytes laid into a block that is known whole. -/
theorem buf_copy {w : World} {y off : Nat} {l b : List Nat} (h : Buf w y l) (hb : ∀ x ∈ b, x < 256) : Buf (w.setRow y (splice (vals l) off (vals b)).toArray) y (over l off b) := by
  refine ⟨?_, fun x hx => ?_⟩
  · rw [setRow_heap w y _ _ 5 (0, 0) h.1, vals_over]; rfl
  · simp only [over, List.mem_append] at hx
    rcases hx with h2 | h2 | h2
    · exact h.2 x (List.mem_of_mem_take h2)
    · exact hb x h2
    · exact h.2 x (List.mem_of_mem_drop h2)
theorem over_len (l b : List Nat) (off : Nat) (h : off + b.length ≤ l.length) : (over l off b).length = l.length := by simp [over]; omega
theorem pack_eq (b n : Nat) (p : List Nat) (hp : p.length ≤ 54) : over (over (over (over zeros 0 (four b)) 4 (two n)) 6 p) 60 (four b) = sect b n p := by
  have hz : zeros = List.replicate 4 0 ++ (List.replicate 2 0 ++ (List.replicate 54 0 ++ List.replicate 4 0)) := by decide
  have h1 : over zeros 0 (four b) = four b ++ (List.replicate 2 0 ++ (List.replicate 54 0 ++ List.replicate 4 0)) := by
    rw [hz, over, List.take_zero, List.nil_append, four_len, List.drop_left' (by simp)]
  have h2 : over (four b ++ (List.replicate 2 0 ++ (List.replicate 54 0 ++ List.replicate 4 0))) 4 (two n) = four b ++ (two n ++ (List.replicate 54 0 ++ List.replicate 4 0)) := by
    rw [over, List.take_left' (four_len b)]
    have e : four b ++ (List.replicate 2 0 ++ (List.replicate 54 0 ++ List.replicate 4 0)) = (four b ++ List.replicate 2 0) ++ (List.replicate 54 0 ++ List.replicate 4 0) := by simp only [List.append_assoc]
    have e3 : ((four b ++ List.replicate 2 0) ++ (List.replicate 54 0 ++ List.replicate 4 0)).drop (4 + (two n).length) = List.replicate 54 0 ++ List.replicate 4 0 := List.drop_left' (by simp [four_len, two])
    rw [e, e3]
  have hr : List.replicate 54 0 = List.replicate p.length 0 ++ List.replicate (54 - p.length) 0 := by rw [List.replicate_append_replicate]; congr 1; omega
  have h3 : over (four b ++ (two n ++ (List.replicate 54 0 ++ List.replicate 4 0))) 6 p = four b ++ (two n ++ (pad p ++ List.replicate 4 0)) := by
    have e : four b ++ (two n ++ (List.replicate 54 0 ++ List.replicate 4 0)) = (four b ++ two n) ++ (List.replicate p.length 0 ++ (List.replicate (54 - p.length) 0 ++ List.replicate 4 0)) := by rw [hr]; simp only [List.append_assoc]
    rw [e, over, List.take_left' (by simp [four_len, two])]
    have e2 : ((four b ++ two n) ++ (List.replicate p.length 0 ++ (List.replicate (54 - p.length) 0 ++ List.replicate 4 0))).drop (6 + p.length) = List.replicate (54 - p.length) 0 ++ List.replicate 4 0 := by
      rw [← List.append_assoc (four b ++ two n)]
      exact List.drop_left' (by simp [four_len, two]; omega)
    rw [e2]
    simp only [pad, List.append_assoc]
  rw [h1, h2, h3, over]
  have e : four b ++ (two n ++ (pad p ++ List.replicate 4 0)) = (four b ++ (two n ++ pad p)) ++ List.replicate 4 0 := by simp only [List.append_assoc]
  have hl : (four b ++ (two n ++ pad p)).length = 60 := by simp [four_len, two, pad_len p hp]
  rw [e, List.take_left' hl, List.drop_eq_nil_of_le (by rw [List.length_append, hl, four_len, List.length_replicate]; omega), List.append_nil, sect]
  simp only [List.append_assoc]
theorem Buf.up {w w' : World} {g : Nat} {l : List Nat} (h : Buf w g l) (hb : Below w.heap.size w w') : Buf w' g l := ⟨(hb.block g h.lt).trans h.1, h.2⟩
theorem Buf.cur {w : World} {g : Nat} {l : List Nat} (h : Buf w g l) : w.heap[g]? = some (.cells (vals l).toArray 5 (0, 0)) := h.1
theorem make64' (w : World) : (Instr.makeSlice 40 (.int .i64 64) (.int .i64 64)).run Try.prog w = .ok (.slice (some ⟨w.heap.size, 0, none⟩) 64 64) (w.alloc (.cells (row8 zeros) 5)) := make64 w
set_option maxHeartbeats 2000000 in
theorem packed_any {w : World} (b n : Nat) (a : Option Addr) (p : List Nat) (k cap : Nat) (hk : p.length = k) (hb : b < 4294967296) (hp : k ≤ 54) (hr : Row w a p) :
    Calls Try.prog 52 #[.int .i64 (b : Int), .int .i64 (n : Int), .slice a k cap] w fun e w' => ∃ g, e = .returned (.slice (some ⟨g, 0, none⟩) 64 64) ∧ Buf w' g (sect b n p) ∧ Below w.heap.size w w' ∧ w.heap.size ≤ g := by
  have HE := hid (pack_eq b n p (by omega))
  have HK := hid hk
  have L1 : Hid ((vals (over zeros 0 (four b))).length = 64) := by show _ = _; rw [vals_len, over_len _ _ _ (by rw [four_len]; decide)]; rfl
  have L2 : Hid ((vals (over (over zeros 0 (four b)) 4 (two n))).length = 64) := by show _ = _; rw [vals_len, over_len _ _ _ (by rw [← vals_len (over zeros 0 (four b)), L1.out]; show 4 + 2 ≤ 64; omega), ← vals_len]; exact L1.out
  have L3 : Hid ((vals (over (over (over zeros 0 (four b)) 4 (two n)) 6 p)).length = 64) := by show _ = _; rw [vals_len, over_len _ _ _ (by rw [← vals_len (over (over zeros 0 (four b)) 4 (two n)), L2.out]; omega), ← vals_len]; exact L2.out
  have H0 : Hid (Buf (w.alloc (.cells (row8 zeros) 5)) w.heap.size zeros) := buf_new w zeros bytes_zeros.2
  have HB0 : Hid (Below w.heap.size w (w.alloc (.cells (row8 zeros) 5))) := (Below.refl _ w).alloc (Nat.le_refl _) _
  have HR := hid hr
  have hmk := make64' w
  have HF := hid (low_four b hb)
  have HT := hid (low_two n)
  have HL4 : Hid (∀ x ∈ four b, x < 256) := Crc.four_lt hb
  generalize hW0 : w.alloc (.cells (row8 zeros) 5) = W0 at *
  have hsz : w.heap.size < W0.heap.size := H0.out.lt
  clear hW0 hr hk
  go_enter Try.func52, Try.ntmps52
  go_wp2_with fail
  refine (lowest4 _ b).mono ?_
  rintro e w1 ⟨g1, rfl, ho1, hb1, hg1⟩
  rw [HF.out] at ho1
  have HR1 := hid ho1.row
  have H1 := hid (H0.out.up hb1)
  have HB1 := hid (below_tr HB0.out hb1 (by omega))
  have hs1 := hb1.size
  clear ho1 hb1 hmk
  have tok : True := trivial
  go_wp2_with (have _t := tok; refine step_copy rfl _ _ rfl w.heap.size 0 64 64 (some ⟨g1, 0, none⟩) 4 4 rfl rfl _ 5 H1.out.cur (four b) rfl HR1.out (by rw [four_len, vals_len]; decide) ?_; intro w2 hw2; have HW2 := hid hw2; clear tok hw2)
  have hw2 := HW2.out
  have H2 := hid (show Buf w2 w.heap.size (over zeros 0 (four b)) from hw2 ▸ buf_copy H1.out HL4.out)
  have HB2 := hid (show Below w.heap.size w w2 from hw2 ▸ below_setRow HB1.out (Nat.le_refl _) _)
  have hs2 : w2.heap.size = w1.heap.size := by rw [hw2]; simp [World.setRow]
  clear hw2 HW2 H1 HB1 HR1
  go_region_held_law (fun _ => True) (trivial) (first
    | (go_at_call 61; refine (lowest2 _ n).mono ?_; rintro e w3 ⟨g3, rfl, ho3, hb3, hg3⟩; rw [HT.out] at ho3
       have hb3 := below_of_drew hb3
       have hs3 := hb3.size
       have HR3 := hid ho3.row
       have H3 := hid (H2.out.up hb3)
       have HB3 := hid (below_tr HB2.out hb3 (by omega))
       clear ho3 hb3)
    | (refine step_copy_region rfl (.tmp 14) (.tmp 16) rfl w.heap.size 4 60 60 (some ⟨g3, 0, none⟩) 2 2 rfl rfl _ 2 (run_copy_bytes _ _ w.heap.size 4 60 60 (some ⟨g3, 0, none⟩) 2 2 _ 5 H3.out.cur (two n) rfl HR3.out (by rw [L1.out]; show 4 + 2 ≤ 64; omega)) ?_))
  have H4 := hid (buf_copy (off := 4) H3.out (two_lt n))
  have HB4 := hid (below_setRow HB3.out (Nat.le_refl _) (splice (vals (over zeros 0 (four b))) 4 (vals (two n))).toArray)
  have hs4 : w1.heap.size ≤ (w3.setRow w.heap.size (splice (vals (over zeros 0 (four b))) 4 (vals (two n))).toArray).heap.size := by simp [World.setRow]; omega
  generalize w3.setRow w.heap.size (splice (vals (over zeros 0 (four b))) 4 (vals (two n))).toArray = w4 at *
  have HR4 := hid (HR.out.below (HB4.out))
  clear HR H3 HB3 HR3 H2 HB2
  have tok : True := trivial
  go_wp2_with (have _t := tok; refine step_copy rfl _ _ rfl w.heap.size 6 54 58 a k cap rfl rfl _ 5 H4.out.cur p (by rw [HK.out]; exact (Nat.min_eq_left hp).symm) HR4.out (by rw [L2.out, HK.out]; omega) ?_; intro w5 hw5; have HW5 := hid hw5; clear tok hw5)
  have hw5 := HW5.out
  have H5 := hid (show Buf w5 w.heap.size (over (over (over zeros 0 (four b)) 4 (two n)) 6 p) from hw5 ▸ buf_copy H4.out HR4.out.1)
  have HB5 := hid (show Below w.heap.size w w5 from hw5 ▸ below_setRow HB4.out (Nat.le_refl _) _)
  have hs5 : w5.heap.size = w4.heap.size := by rw [hw5]; simp [World.setRow]
  clear hw5 HW5 H4 HB4 HR4
  go_region_held_law (fun _ => True) (trivial) (first
    | (go_at_call 61; refine (lowest4 _ b).mono ?_; rintro e w6 ⟨g6, rfl, ho6, hb6, hg6⟩; rw [HF.out] at ho6
       have hb6 := below_of_drew hb6
       have HR6 := hid ho6.row
       have H6 := hid (H5.out.up hb6)
       have HB6 := hid (below_tr HB5.out hb6 (by omega))
       clear ho6 hb6)
    | (refine step_copy_region rfl (.tmp 23) (.tmp 25) rfl w.heap.size 60 4 4 (some ⟨g6, 0, none⟩) 4 4 rfl rfl _ 4 (run_copy_bytes _ _ w.heap.size 60 4 4 (some ⟨g6, 0, none⟩) 4 4 _ 5 H6.out.cur (four b) rfl HR6.out (by rw [L3.out]; show 60 + 4 ≤ 64; omega)) ?_))
  have H7 := hid (buf_copy (off := 60) H6.out HL4.out)
  rw [HE.out] at H7
  have HB7 := hid (below_setRow HB6.out (Nat.le_refl _) (splice (vals (over (over (over zeros 0 (four b)) 4 (two n)) 6 p)) 60 (vals (four b))).toArray)
  go_wp2_with fail
  go_ret
  exact ⟨_, rfl, H7.out, HB7.out, Nat.le_refl _⟩
end Go.Proofs.Yteohjfhflodklaa
