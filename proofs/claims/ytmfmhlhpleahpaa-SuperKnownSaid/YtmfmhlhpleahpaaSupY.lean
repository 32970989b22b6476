/- What Write and Read of a slot answer on a disk that is too small; a disk that is new tells nothing. No condition. -/
import Derived.Test.YtmfmhlhpleahpaaSupU
namespace Go.Proofs.Ytmfmhlhpleahpaa
open Go.RowKit Pen
open Crc (four nx)
set_option maxRecDepth 10000 in
set_option maxHeartbeats 4000000 in
theorem readS_small {w : World} {q p : Nat} {d : Dk} (h : DiskAt w q p d) (hdead : d.dead = false) (s : Nat) (hs : s < 2) (hsl4 : s * 4 ≤ d.secs.length) (hn : ¬ s * 4 + 4 ≤ d.secs.length) (k : Int) :
    Calls Try.prog 22 #[.pointer (some ⟨q, 0, none⟩), .int .i64 (s : Int), .int .i64 k] w fun e w' => e = .returned (.tuple #[.agg #[.int .i64 0, .int .i64 0, .slice none 0 0, .int .i64 0, .int .u32 0, .slice none 0 0, .int .i64 0, .int .u32 0], .bool false]) ∧ Below w.heap.size w w' := by
  obtain ⟨w1, hw1⟩ : ∃ w1, w1 = w.alloc (.cells #[.int .i64 0, .int .i64 0, .slice none 0 0, .int .i64 0, .int .u32 0, .slice none 0 0, .int .i64 0, .int .u32 0] 32) := ⟨_, rfl⟩
  have hb1 : Below w.heap.size w w1 := by rw [hw1]; exact (Below.refl _ _).alloc (Nat.le_refl _) _
  have hy1 : w1.heap[w.heap.size]? = some (.cells #[.int .i64 0, .int .i64 0, .slice none 0 0, .int .i64 0, .int .u32 0, .slice none 0 0, .int .i64 0, .int .u32 0] 32 (0, 0)) := by rw [hw1]; exact heap_alloc_new _ _
  have hs1 : w1.heap.size = w.heap.size + 1 := by rw [hw1]; simp
  have hsl : isSlot (s : Int) = true := by rcases (by omega : s = 0 ∨ s = 1) with rfl | rfl <;> rfl
  have hki := isSlot_any (s : Int)
  rw [hsl] at hki
  have HW1 := hid hw1
  have HB1 := hid hb1
  have HY1 := hid hy1
  have HS1 := hid hs1
  have HD1 := hid (h.below hb1)
  have HDE := hid hdead
  have HN := hid hn
  have HKI := hid hki
  have HSZL : Hid (s * 4 ≤ d.secs.length) := hsl4
  have hsi : (s : Int) < 2 := by omega
  clear hw1 hb1 hy1 hs1 h hdead hn hsl hki hsl4
  go_enter Try.func22, Try.ntmps22
  go_wp2_with fail
  refine (HKI.out _).mono ?_
  rintro e w2 ⟨rfl, rfl⟩
  rw [← HW1.out]
  clear HKI HW1
  go_wp2_with fail
  go_loopg [8, 9, 10, 11, 16] 4 (fun t v8 v9 v10 v11 v16 wr => ∃ (i : Nat) (pre : List Nat), i + t = 4 ∧ v16 = .int .i64 (i : Int) ∧ wr.ownsRow w1.heap.size 5 1 v8 pre.length (vals pre) ∧ Below w1.heap.size w1 wr ∧ pre.length = 64 * i ∧ (∀ x ∈ pre, x < 256) ∧ Hid (s * 4 + i ≤ d.secs.length))
  case atStart => exact ⟨0, [], rfl, rfl, World.ownsRow_nil _ _ 5 1, Below.refl _ _, rfl, by simp, hid (by have := HN.out; have := HSZL.out; omega)⟩
  case round =>
    obtain ⟨i, pre, hi, rfl, hown, hb, hpl, hpx, ht⟩ := hrel
    have HOWN := hid hown
    have HBr := hid hb
    have HPX := hid (And.intro hpx hpl)
    by_cases hi4 : i < 4
    · obtain ⟨t, rfl⟩ : ∃ t, gk = t + 1 := ⟨gk - 1, by omega⟩
      have hii : (i : Int) < 4 := by omega
      have HT := hid ht.out
      have HII := hid (And.intro hi hi4)
      have HDr := hid (HD1.out.below hb)
      clear hown hb hpl hpx ht hi
      rcases (Nat.lt_or_ge (s * 4 + i) d.secs.length).symm with hin | hin
      · have hhas : d.has ((s : Int) * 4 + (i : Int)) = false := by
          unfold Dk.has
          rw [decide_eq_false (show ¬ ((s : Int) * 4 + (i : Int) < (d.secs.length : Int)) by omega), Bool.and_false]
        have hyE := (HBr.out.block w.heap.size (by have := HS1.out; omega)).trans HY1.out
        have HYE := hid hyE
        have HSTE := hid (store_zero hyE)
        have HKA := hid (read_arg HDr.out HDE.out ((s : Int) * 4 + (i : Int)) hhas)
        clear hhas hyE hin
        go_wp2_with fail
        refine HKA.out.mono ?_
        rintro e w5 ⟨rfl, rfl⟩
        have tok : True := trivial
        go_wp2_with (have _t := tok; refine step_store 32 rfl _ _ rfl _ HSTE.out ?_; clear tok)
        refine bodyPost_ret (ret_pair Try.results22 _ _ w.heap.size _ rfl (setRow_heap _ _ _ _ _ _ HYE.out) rfl) rfl ⟨rfl, below_setRow (HB1.out.trans (HBr.out.mono HB1.out.size)) (Nat.le_refl _) _⟩
      have HIN := hid hin
      clear hin
      go_wp2_with fail
      rw [show (s : Int) * 4 + (i : Int) = ((s * 4 + i : Nat) : Int) by omega]
      refine (read_ok (i := s * 4 + i) HDr.out HDE.out HIN.out).mono ?_
      rintro e w5 ⟨g5, rfl, hg5, hb5, -⟩
      have hown5 : w5.ownsRow w1.heap.size 5 1 u8 pre.length (vals pre) := by
        refine ⟨HOWN.out.1, ?_⟩
        rcases HOWN.out.2 with h | ⟨g, cap, cur, e, hb', hg, hc⟩
        · exact .inl h
        · exact .inr ⟨g, cap, cur, e, hb', (hb5.block g (Array.getElem?_eq_some_iff.1 hg).1).trans hg, hc⟩
      have HO5 := hid hown5
      have HB5 := hid (HBr.out.trans (hb5.mono HBr.out.size))
      have HL5 : Hid ((d.read (s * 4 + i)).length = 64) := read_len HDr.out HIN.out
      have HR5 := hid hg5.row
      have hne : d.read (s * 4 + i) ≠ [] := fun e => by have h := HL5.out; rw [e] at h; simp at h
      have HNE := hid hne
      have HSZ : Hid (pre.length + (d.read (s * 4 + i)).length ≤ 1000000000) := by show _ ≤ _; rw [HL5.out]; have := HPX.out.2; have := HII.out; omega
      have HT2 : Hid (s * 4 + (i + 1) ≤ d.secs.length) := by have := HIN.out; show _ ≤ _; omega
      clear hown5 hg5 hb5 hne HOWN HBr
      have tok1 : True := trivial
      go_wp2_with (at_builtin; have _t := tok1; refine wpList_append_row _ rfl _ _ rfl w1.heap.size u8 pre rfl HO5.out _ (d.read (s * 4 + i)) 64 64 rfl HL5.out HR5.out HNE.out HSZ.out HB5.out.size ?_; intro g1 k1 c1 x1 hk1 ho1 hg1 _; have HX1 := own_app0 HB5.out HO5.out hg1 ho1; have HK1 := hid hk1; clear tok1 ho1 hg1 hk1)
      go_roundg t
      case measure => omega
      case rel =>
        refine ⟨i + 1, pre ++ d.read (s * 4 + i), by have := HII.out; omega, by go_num, ?_, HX1.out.2, by rw [List.length_append, HL5.out, HPX.out.2]; omega, ?_, HT2⟩
        · rw [HK1.out]; exact HX1.out.1
        · intro x hx
          rcases List.mem_append.1 hx with h | h
          · exact HPX.out.1 x h
          · exact HR5.out.1 x h
    · have hii : ¬ (i : Int) < 4 := by omega
      obtain rfl : i = 4 := by omega
      exact absurd ht.out HN.out
set_option maxRecDepth 10000 in
set_option maxHeartbeats 4000000 in
theorem writeS_small {w : World} {q p : Nat} {d : Dk} (h : DiskAt w q p d) (hdead : d.dead = false) (s : Nat) (hs : s < 2) (hn : ¬ s * 4 + 4 ≤ d.secs.length)
    (nb bt : Int) (aj : Option Addr) (nj cj : Nat) (lj : Int) (kj : Nat) (ac : Option Addr) (nc cc : Nat) (lc : Int) (kc : Nat) (sj sc : List Int)
    (hj : IRow w aj sj) (hnj : sj.length = nj) (hmj : nj ≤ 1000) (hc : IRow w ac sc) (hnc : sc.length = nc) (hmc : nc ≤ 1000) (hkj : kj < 4294967296) (hkc : kc < 4294967296)
    (t : Sp) (ht : t = ⟨nb, bt, ⟨sj, lj, kj⟩, ⟨sc, lc, kc⟩⟩) (hok : t.Ok 96) :
    Calls Try.prog 18 #[.pointer (some ⟨q, 0, none⟩), .int .i64 (s : Int), .agg #[.int .i64 nb, .int .i64 bt, .slice aj nj cj, .int .i64 lj, .int .u32 (kj : Int), .slice ac nc cc, .int .i64 lc, .int .u32 (kc : Int)]] w
      fun e w' => e = .returned (.int .i64 1) ∧ Below w.heap.size w w' := by
  obtain ⟨w1, hw1⟩ : ∃ w1, w1 = w.alloc (.cells #[.int .i64 nb, .int .i64 bt, .slice aj nj cj, .int .i64 lj, .int .u32 (kj : Int), .slice ac nc cc, .int .i64 lc, .int .u32 (kc : Int)] 32) := ⟨_, rfl⟩
  have hb1 : Below w.heap.size w w1 := by rw [hw1]; exact (Below.refl _ _).alloc (Nat.le_refl _) _
  have hkb := bytesS_any w1 nb bt aj nj cj lj kj ac nc cc lc kc sj sc (hj.below hb1) hnj hmj (hc.below hb1) hnc hmc hkj hkc t ht hok
  have HLS := hid (bytes_len hok)
  have HLT := hid (bytes_lt hok (by rw [ht]; exact hkj) (by rw [ht]; exact hkc))
  have hsl : isSlot (s : Int) = true := by rcases (by omega : s = 0 ∨ s = 1) with rfl | rfl <;> rfl
  have hki := isSlot_any (s : Int)
  rw [hsl] at hki
  have HW1 := hid hw1
  have HB1 := hid hb1
  have HKB := hid hkb
  have HKI := hid hki
  have HD := hid h
  have HDE := hid (And.intro hdead hn)
  have hsi : (s : Int) < 2 := by omega
  generalize t.bytes = B at *
  clear hw1 hb1 hkb hsl hki h hdead hn hj hnj hmj hc hnc hmc hkj hkc ht hok
  go_enter Try.func18, Try.ntmps18
  go_wp2_with fail
  rw [← HW1.out]
  clear HW1
  refine HKB.out.mono ?_
  rintro e w2 ⟨g, cap, rfl, ho2, hb2⟩
  obtain ⟨hcp, hr2⟩ := row_of_owns' HLS.out ho2 HLT.out
  have HGE : Hid (w1.heap.size ≤ g) := by
    rcases ho2.2 with ⟨e, _⟩ | ⟨g', c', cur, e, hb', _⟩
    · simp at e
    · simp at e
      show _ ≤ _
      omega
  have HB2 := hid (HB1.out.trans (hb2.mono HB1.out.size))
  have HR2 := hid hr2
  have HCP := hid hcp
  have HD2 := hid (HD.out.below HB2.out)
  have HQP := hid HD.out.lt
  have HW : Hid (w.heap.size ≤ w1.heap.size) := HB1.out.size
  clear ho2 hb2 hr2 hcp HKB
  go_wp2_with (go_at_call 35; refine (HKI.out _).mono ?_; rintro e w' ⟨rfl, rfl⟩)
  clear HKI
  have hhas : d.has ((s : Int) * 4 + 4 - 1) = false := by
    unfold Dk.has
    rw [decide_eq_false (show ¬ ((s : Int) * 4 + 4 - 1 < (d.secs.length : Int)) by have := HDE.out.2; omega), Bool.and_false]
  refine (read_arg HD2.out HDE.out.1 _ hhas).mono ?_
  rintro e w3 ⟨rfl, rfl⟩
  go_wp2_with fail
  go_ret
  exact ⟨rfl, HB2.out⟩
theorem zeros_none (X : List Nat) (h : ∀ j, X.getD j 0 = 0) (k : Int) : parse X k = none := by
  cases hp : parse X k with
  | none => rfl
  | some s =>
    obtain ⟨hs, hb, _⟩ := parse_some hp
    have e := mid_get hs 0 0 (by decide) (by decide)
    rw [hb, h] at e
    have e2 : (summed s.told).getD (56 * 0 + 0) 0 = 84 := by
      show (summed s.told).getD 0 0 = 84
      rfl
    rw [e2] at e
    cases e
theorem fresh_slot (n s j : Nat) : ((fresh n).slot s).getD j 0 = 0 := by
  have hz : ∀ i, (fresh n).read i = zeros := fun i => by
    unfold Dk.read
    rw [fresh_sec]
    rfl
  have hm : ∀ x ∈ (fresh n).slot s, x = 0 := by
    intro x hx
    rw [slot_four, hz, hz, hz, hz] at hx
    have hz0 : ∀ y ∈ zeros, y = 0 := fun y hy => List.eq_of_mem_replicate hy
    simp only [List.mem_append, List.not_mem_nil, or_false] at hx
    rcases hx with h | h | h | h <;> exact hz0 x h
  rw [List.getD_eq_getElem?_getD]
  cases h : ((fresh n).slot s)[j]? with
  | none => rfl
  | some x => exact hm x (List.mem_of_getElem? h)
end Go.Proofs.Ytmfmhlhpleahpaa
