/- The document's example of a disk comes out true (the statements' own 'awake'). No condition. -/
import Derived.Test.YtoniolndoidkcaaDiskF
namespace Go.Proofs.Ytoniolndoidkcaa
open Go.RowKit
theorem row1 (w : World) (b : Nat) (hb : b < 256) : Row (w.alloc (.cells #[.int .u8 (b : Int)] 5)) (some ⟨w.heap.size, 0, none⟩) [b] := row_new w [b] (by simpa using hb) 5 (0, 0)
theorem below_one (w : World) (o : Obj) : Below w.heap.size w (w.alloc o) := (Below.refl _ w).alloc (Nat.le_refl _) o
/-- full of one byte. -/
theorem full_one (w : World) (b : Nat) (hb : b < 256) :
    Calls Try.prog 13 #[.slice (some ⟨w.heap.size, 0, none⟩) 1 1] (w.alloc (.cells #[.int .u8 (b : Int)] 5)) fun e w' => ∃ g, e = .returned (.slice (some ⟨g, 0, none⟩) 64 64) ∧ Buf w' g (full [b]) ∧ Below w.heap.size w w' ∧ w.heap.size ≤ g := by
  refine (full_any _ _ [b] 1 1 (row1 w b hb) rfl (by decide)).mono ?_
  rintro e w' ⟨g, rfl, h1, h2, h3⟩
  have := (below_one w (.cells #[.int .u8 (b : Int)] 5))
  refine ⟨g, rfl, h1, this.trans (h2.mono this.size), Nat.le_trans this.size h3⟩
/-- Crash by one byte. -/
theorem crash_one {w : World} {q p : Nat} {d : Dk} (h : DiskAt w q p d) (b : Nat) (hb : b < 256) :
    Calls Try.prog 24 #[.pointer (some ⟨q, 0, none⟩), .slice (some ⟨w.heap.size, 0, none⟩) 1 1] (w.alloc (.cells #[.int .u8 (b : Int)] 5)) fun e w' => ∃ q', e = .returned (.pointer (some ⟨q', 0, none⟩)) ∧ ∃ p', DiskAt w' q' p' (d.crash [b]) ∧ Below w.heap.size w w' ∧ w.heap.size ≤ q' ∧ w.heap.size ≤ p' := by
  have hb1 := below_one w (.cells #[.int .u8 (b : Int)] 5)
  refine (crash_any (h.below hb1) _ [b] 1 1 (row1 w b hb) rfl (by decide)).mono ?_
  rintro e w' ⟨q', rfl, p', h1, h2, h3, h4⟩
  exact ⟨q', rfl, p', h1, hb1.trans (h2.mono hb1.size), Nat.le_trans hb1.size h3, Nat.le_trans hb1.size h4⟩
theorem new2 (w : World) : Calls Try.prog 10 #[.int .i64 2] w fun e w' => ∃ q, e = .returned (.tuple #[.pointer (some ⟨q, 0, none⟩), .int .i64 0]) ∧ ∃ p, DiskAt w' q p (fresh 2) ∧ Below w.heap.size w w' ∧ w.heap.size ≤ q ∧ w.heap.size ≤ p := new_any w 2 (by decide)
def awk : Dk := ((fresh 2).write 1 (full [7])).1
theorem awk_ans : ((fresh 2).write 1 (full [7])).2 = 0 := by decide
theorem awk_a : (awk.crash [0]).dead = false ∧ 1 < (awk.crash [0]).secs.length ∧ ((awk.crash [0]).read 1).getD 0 0 = 0 := by decide
theorem awk_b : (awk.crash [1]).dead = false ∧ 1 < (awk.crash [1]).secs.length ∧ ((awk.crash [1]).read 1).getD 63 0 = 7 := by decide
theorem awk_c : (awk.crash [23]).dead = false ∧ 1 < (awk.crash [23]).secs.length ∧ ((awk.crash [23]).read 1).getD 4 0 = 7 ∧ ((awk.crash [23]).read 1).getD 5 0 = 0 := by decide
theorem awk_ops : awk.ops = 1 := by decide
theorem read_len {w : World} {q p i : Nat} {d : Dk} (h : DiskAt w q p d) (hi : i < d.secs.length) : (d.read i).length = 64 := (h.ok.1.get i hi).last.1
theorem read1 {w : World} {q p : Nat} {d : Dk} (h : DiskAt w q p d) (hdead : d.dead = false) (hi : 1 < d.secs.length) :
    Calls Try.prog 18 #[.pointer (some ⟨q, 0, none⟩), .int .i64 1] w fun e w' => ∃ g, e = .returned (.tuple #[.slice (some ⟨g, 0, none⟩) 64 64, .int .i64 0]) ∧ Buf w' g (d.read 1) ∧ Below w.heap.size w w' ∧ w.heap.size ≤ g := read_ok (i := 1) h hdead hi
theorem read0 {w : World} {q p : Nat} {d : Dk} (h : DiskAt w q p d) (hdead : d.dead = false) (hi : 0 < d.secs.length) :
    Calls Try.prog 18 #[.pointer (some ⟨q, 0, none⟩), .int .i64 0] w fun e w' => ∃ g, e = .returned (.tuple #[.slice (some ⟨g, 0, none⟩) 64 64, .int .i64 0]) ∧ Buf w' g (d.read 0) ∧ Below w.heap.size w w' ∧ w.heap.size ≤ g := read_ok (i := 0) h hdead hi
theorem Only.low {q p : Nat} {w w' : World} {base : Nat} (h : Only q (some p) w w') (hq : base ≤ q) (hp : base ≤ p) (hb : base ≤ w.heap.size) : Below base w w' :=
  h.below hq (fun k e => by simp at e; omega) hb
set_option maxHeartbeats 2000000 in
theorem awake_any (w : World) : Calls Try.prog 9 #[] w fun e w' => e = .returned (.bool true) ∧ Below w.heap.size w w' := by
  go_enter Try.func9, Try.ntmps9
  go_wp2_with fail
  refine (new2 _).mono ?_
  rintro e w1 ⟨q, rfl, p, hd, hb, hq, hp⟩
  have HD := hid hd
  have HB := hid hb
  have HQ := hid hq
  have HP := hid hp
  clear hd hb hq hp
  go_wp2_with fail
  refine (full_one w1 7 (by decide)).mono ?_
  rintro e w2 ⟨g, rfl, hg, hb2, hg2⟩
  have HB2 := hid (HB.out.trans (hb2.mono HB.out.size))
  have HD2 := hid (HD.out.below hb2)
  have HG := hid hg
  clear hg hb2 hg2
  go_wp2_with fail
  refine (write_any HD2.out (by decide) 1 _ (full [7]) 64 64 HG.out.row (by decide)).mono ?_
  rintro e w3 ⟨rfl, hd3, ho3⟩
  rw [awk_ans]
  change DiskAt w3 q p awk at hd3
  have HBw3 := hid (HB2.out.trans (ho3.low HQ.out HP.out HB2.out.size))
  have HDw3 := hid hd3
  clear hd3 ho3 HD HB HB2 HD2 HG
  go_wp2_with fail
  refine (crash_one HDw3.out 0 (by decide)).mono ?_
  rintro e w4 ⟨q1, rfl, q1p, hdc, hbc, -, -⟩
  have HC1 := hid hdc
  have HX1 := hid hbc
  clear hdc hbc
  go_wp2_with fail
  refine (read1 HC1.out awk_a.1 awk_a.2.1).mono ?_
  rintro e w5 ⟨g1, rfl, hg, hbr, -⟩
  have HBw5 := hid (HBw3.out.trans ((HX1.out.trans (hbr.mono HX1.out.size)).mono HBw3.out.size))
  have HDw5 := hid (HDw3.out.below (HX1.out.trans (hbr.mono HX1.out.size)))
  have HY1 := hid (HX1.out.trans (hbr.mono HX1.out.size))
  have HG1 := hid hg
  have HN1 := hid (read_len HC1.out awk_a.2.1)
  clear hg hbr
  go_wp2_with fail
  refine (crash_one HDw5.out 1 (by decide)).mono ?_
  rintro e w6 ⟨q2, rfl, q2p, hdc, hbc, -, -⟩
  have HC2 := hid hdc
  have HX2 := hid hbc
  clear hdc hbc
  go_wp2_with fail
  refine (read1 HC2.out awk_b.1 awk_b.2.1).mono ?_
  rintro e w7 ⟨g2, rfl, hg, hbr, -⟩
  have HBw7 := hid (HBw5.out.trans ((HX2.out.trans (hbr.mono HX2.out.size)).mono HBw5.out.size))
  have HDw7 := hid (HDw5.out.below (HX2.out.trans (hbr.mono HX2.out.size)))
  have HY2 := hid (HX2.out.trans (hbr.mono HX2.out.size))
  have HG2 := hid hg
  have HN2 := hid (read_len HC2.out awk_b.2.1)
  clear hg hbr
  go_wp2_with fail
  refine (crash_one HDw7.out 23 (by decide)).mono ?_
  rintro e w8 ⟨q3, rfl, q3p, hdc, hbc, -, -⟩
  have HC3 := hid hdc
  have HX3 := hid hbc
  clear hdc hbc
  go_wp2_with fail
  refine (read1 HC3.out awk_c.1 awk_c.2.1).mono ?_
  rintro e w9 ⟨g3, rfl, hg, hbr, -⟩
  have HBw9 := hid (HBw7.out.trans ((HX3.out.trans (hbr.mono HX3.out.size)).mono HBw7.out.size))
  have HDw9 := hid (HDw7.out.below (HX3.out.trans (hbr.mono HX3.out.size)))
  have HY3 := hid (HX3.out.trans (hbr.mono HX3.out.size))
  have HG3 := hid hg
  have HN3 := hid (read_len HC3.out awk_c.2.1)
  clear hg hbr
  have h1 := ((HG1.out.below HY2.out).below HY3.out).cell 0 (by rw [HN1.out]; decide)
  have h2 := (HG2.out.below HY3.out).cell 63 (by rw [HN2.out]; decide)
  have h3 := HG3.out.cell 4 (by rw [HN3.out]; decide)
  have h4 := HG3.out.cell 5 (by rw [HN3.out]; decide)
  rw [awk_a.2.2] at h1
  rw [awk_b.2.2] at h2
  rw [awk_c.2.2.1] at h3
  rw [awk_c.2.2.2] at h4
  go_wp2_with fail
  refine (ops_any HDw9.out).mono ?_
  rintro e w10 ⟨rfl, rfl⟩
  rw [awk_ops]
  go_wp2_with fail
  go_ret
  exact ⟨rfl, HBw9.out⟩
end Go.Proofs.Ytoniolndoidkcaa
