/- What the program's Write does to a disk that is alive, has no fuse, and has the slot's sectors. -/
import Derived.Test.YtmfmhlhpleahpaaSupH
namespace Go.Proofs.Ytmfmhlhpleahpaa
open Go.RowKit Pen
open Crc (four nx)
def Dk.lay (d : Dk) (i : Nat) (b : List Nat) : Dk := { d with ops := d.ops + 1, secs := d.secs.set i { d.secs.getD i blank with cached := b, waits := true } }
def layFrom (s : Nat) (B : List Nat) : Nat → Dk → Dk
  | 0, d => d
  | k + 1, d => layFrom s B k (d.lay (s * 4 + (3 - k)) ((B.drop (64 * (3 - k))).take 64))
set_option maxRecDepth 10000 in
set_option maxHeartbeats 4000000 in
theorem writeS_ok {w : World} {q p : Nat} {d : Dk} (h : DiskAt w q p d) (hdead : d.dead = false) (hf : d.fuse = none) (hops : d.ops ≤ 1000000) (s : Nat) (hs : s < 2) (hn : s * 4 + 4 ≤ d.secs.length)
    (nb bt : Int) (aj : Option Addr) (nj cj : Nat) (lj : Int) (kj : Nat) (ac : Option Addr) (nc cc : Nat) (lc : Int) (kc : Nat) (sj sc : List Int)
    (hj : IRow w aj sj) (hnj : sj.length = nj) (hmj : nj ≤ 1000) (hc : IRow w ac sc) (hnc : sc.length = nc) (hmc : nc ≤ 1000) (hkj : kj < 4294967296) (hkc : kc < 4294967296)
    (t : Sp) (ht : t = ⟨nb, bt, ⟨sj, lj, kj⟩, ⟨sc, lc, kc⟩⟩) (hok : t.Ok 96) :
    Calls Try.prog 18 #[.pointer (some ⟨q, 0, none⟩), .int .i64 (s : Int), .agg #[.int .i64 nb, .int .i64 bt, .slice aj nj cj, .int .i64 lj, .int .u32 (kj : Int), .slice ac nc cc, .int .i64 lc, .int .u32 (kc : Int)]] w
      fun e w' => e = .returned (.int .i64 0) ∧ DiskAt w' q p (layFrom s t.bytes 4 d) ∧ Only q (some p) w w' := by
  obtain ⟨w1, hw1⟩ : ∃ w1, w1 = w.alloc (.cells #[.int .i64 nb, .int .i64 bt, .slice aj nj cj, .int .i64 lj, .int .u32 (kj : Int), .slice ac nc cc, .int .i64 lc, .int .u32 (kc : Int)] 32) := ⟨_, rfl⟩
  have hb1 : Below w.heap.size w w1 := by rw [hw1]; exact (Below.refl _ _).alloc (Nat.le_refl _) _
  have hkb := bytesS_any w1 nb bt aj nj cj lj kj ac nc cc lc kc sj sc (hj.below hb1) hnj hmj (hc.below hb1) hnc hmc hkj hkc t ht hok
  have HLS := hid (bytes_len hok)
  have HLT := hid (bytes_lt hok (by rw [ht]; exact hkj) (by rw [ht]; exact hkc))
  have hsl : isSlot (s : Int) = true := by rcases (by omega : s = 0 ∨ s = 1) with rfl | rfl <;> rfl
  have hki := isSlot_any (s : Int)
  rw [hsl] at hki
  have HW1 := hid hw1
  have HB1 := hid hb1
  have HKB := hid hkb
  have HKI := hid hki
  have HD := hid h
  have HDE := hid (And.intro hdead (And.intro hf (And.intro hops hn)))
  have hsi : (s : Int) < 2 := by omega
  generalize t.bytes = B at *
  clear hw1 hb1 hkb hsl hki h hdead hf hops hn hj hnj hmj hc hnc hmc hkj hkc ht hok
  go_enter Try.func18, Try.ntmps18
  go_wp2_with fail
  rw [← HW1.out]
  clear HW1
  refine HKB.out.mono ?_
  rintro e w2 ⟨g, cap, rfl, ho2, hb2⟩
  obtain ⟨hcp, hr2⟩ := row_of_owns' HLS.out ho2 HLT.out
  have HGE : Hid (w1.heap.size ≤ g) := by
    rcases ho2.2 with ⟨e, _⟩ | ⟨g', c', cur, e, hb', _⟩
    · simp at e
    · simp at e
      show _ ≤ _
      omega
  have HB2 := hid (HB1.out.trans (hb2.mono HB1.out.size))
  have HR2 := hid hr2
  have HCP := hid hcp
  have HD2 := hid (HD.out.below HB2.out)
  have HQP := hid HD.out.lt
  have HW : Hid (w.heap.size ≤ w1.heap.size) := HB1.out.size
  clear ho2 hb2 hr2 hcp HKB
  go_wp2_with (go_at_call 35; refine (HKI.out _).mono ?_; rintro e w' ⟨rfl, rfl⟩)
  clear HKI
  rw [show (s : Int) * 4 + 4 - 1 = ((s * 4 + 3 : Nat) : Int) by omega]
  refine (read_ok (i := s * 4 + 3) HD2.out HDE.out.1 (by have := HDE.out.2.2.2; omega)).mono ?_
  rintro e w3 ⟨g3, rfl, -, hb3, -⟩
  have HB3 := hid (HB2.out.trans (hb3.mono HB2.out.size))
  have HR3 := hid (HR2.out.below hb3)
  have HD3 := hid (HD2.out.below hb3)
  clear hb3 HB2 HR2 HD2
  go_wp2_with fail
  go_loopg [12, 13, 39] 4 (fun u v12 v13 v39 wr => ∃ (i : Nat) (d' : Dk), i + u = 4 ∧ v39 = .int .i64 (i : Int) ∧ DiskAt wr q p d' ∧ Only q (some p) w wr ∧ Row wr (some ⟨g, 0, none⟩) B ∧ d'.dead = false ∧ d'.fuse = none ∧ d'.secs.length = d.secs.length ∧ d'.ops ≤ 1000000 + i ∧ Hid (layFrom s B u d' = layFrom s B 4 d))
  case atStart => exact ⟨0, d, rfl, rfl, HD3.out, Only.of_below HB3.out, HR3.out, HDE.out.1, HDE.out.2.1, rfl, HDE.out.2.2.1, hid rfl⟩
  case round =>
    obtain ⟨i, d', hi, rfl, hd', ho', hr', k1, k2, k3, k4, k5⟩ := hrel
    have HO' := hid ho'
    have HD' := hid hd'
    have HR' := hid hr'
    have HKS := hid (And.intro k1 (And.intro k2 (And.intro k3 k4)))
    have HK5 := hid k5.out
    by_cases hi4 : i < 4
    · obtain ⟨u, rfl⟩ : ∃ u, gk = u + 1 := ⟨gk - 1, by omega⟩
      have hii : (i : Int) < 4 := by omega
      have HI := hid (And.intro hi hi4)
      have hsm : ∀ w, (Instr.slice 35 (.slice (some ⟨g, 0, none⟩) 256 cap) (some (.int .i64 ((i : Int) * 64))) (some (.int .i64 (((i : Int) + 1) * 64))) none).run Try.prog w = .ok (.slice (fromA (some ⟨g, 0, none⟩) (i * 64) cap) 64 (cap - i * 64)) w := fun w => by
        have e := slice_mid w (some ⟨g, 0, none⟩) 256 cap (i * 64) ((i + 1) * 64) (by omega) (by have := HCP.out; omega)
        rw [show (i + 1) * 64 - i * 64 = 64 by omega] at e
        simpa using e
      have hrw := row_take (row_drop hr' (i * 64) cap (by rw [HLS.out]; exact HCP.out)) 64
      have hlw : ((B.drop (i * 64)).take 64).length = 64 := by rw [List.length_take, List.length_drop, HLS.out]; omega
      have HRW := hid hrw
      have HLW := hid hlw
      generalize fromA (some ⟨g, 0, none⟩) (i * 64) cap = aw at *
      clear hd' ho' hr' k1 k2 k3 k4 k5 hi hrw hlw
      go_wp2_with fail
      rw [show (s : Int) * 4 + (i : Int) = ((s * 4 + i : Nat) : Int) by omega]
      have hlt : s * 4 + i < d'.secs.length := by have := HKS.out.2.2.1; have := HDE.out.2.2.2; omega
      have kw := write_any HD'.out (by have := HKS.out.2.2.2; have := HI.out; omega) ((s * 4 + i : Nat) : Int) aw ((B.drop (i * 64)).take 64) 64 (cap - i * 64) HRW.out HLW.out
      rw [write_free HKS.out.1 HKS.out.2.1 (s * 4 + i) hlt _ HLW.out] at kw
      refine kw.mono ?_
      rintro e w5 ⟨rfl, hd5, ho5⟩
      have HD5 : Hid (DiskAt w5 q p (d'.lay (s * 4 + i) ((B.drop (i * 64)).take 64))) := hd5
      have HO5 := hid (HO'.out.tr ho5)
      have HR5 := hid (HR'.out.apart (fun x hx => by simp at hx; rw [← hx]; have := HGE.out; have := HW.out; have := HQP.out.1; show g ≠ q; omega) (fun x hx => by simp at hx; rw [← hx]; have := HGE.out; have := HW.out; have := HQP.out.2; show g ≠ p; omega) ho5)
      have HK6 : Hid (layFrom s B u (d'.lay (s * 4 + i) ((B.drop (i * 64)).take 64)) = layFrom s B 4 d) := by
        have e := HK5.out
        rw [layFrom, show 3 - u = i by have := HI.out; omega, Nat.mul_comm 64 i] at e
        exact e
      clear kw hd5 ho5 hsm hlt
      go_wp2_with fail
      go_roundg u
      case measure => omega
      case rel => exact ⟨i + 1, d'.lay (s * 4 + i) ((B.drop (i * 64)).take 64), by have := HI.out; omega, by go_num, HD5.out, HO5.out, HR5.out, HKS.out.1, HKS.out.2.1, by rw [← HKS.out.2.2.1]; simp [Dk.lay], by have := HKS.out.2.2.2; show d'.ops + 1 ≤ _; omega, HK6⟩
    · have hii : ¬ (i : Int) < 4 := by omega
      obtain rfl : i = 4 := by omega
      obtain rfl : gk = 0 := by omega
      clear hd' ho' hr' k1 k2 k3 k4 k5
      go_wp2_with fail
      go_ret
      refine ⟨rfl, ?_, HO'.out⟩
      rw [← HK5.out]
      exact HD'.out
end Go.Proofs.Ytmfmhlhpleahpaa
