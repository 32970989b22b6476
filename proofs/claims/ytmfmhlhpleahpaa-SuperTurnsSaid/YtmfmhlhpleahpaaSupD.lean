/- What the program's Bytes answers: 256 bytes in a row of its own, or ErrArg. Condition: lists are no longer than a thousand. -/
import Derived.Test.YtmfmhlhpleahpaaSupC
namespace Go.Proofs.Ytmfmhlhpleahpaa
open Go.RowKit Pen
open Crc (four nx)
/-- An append to a row of the call's own, nothing made ahead of it. -/
theorem own_app0 {W w1 w2 : World} {v : Value} {l1 l2 : List Nat} {g m cap : Nat} (hb : Below W.heap.size W w1) (hown : w1.ownsRow W.heap.size 5 1 v l1.length (vals l1))
    (hg : w1.grownBy w2 v.ownBlock) (hown2 : w2.ownsRow W.heap.size 5 1 (.slice (some ⟨g, 0, none⟩) m cap) m (vals (l1 ++ l2))) :
    Hid (w2.ownsRow W.heap.size 5 1 (.slice (some ⟨g, 0, none⟩) m cap) m (vals (l1 ++ l2)) ∧ Below W.heap.size W w2) := by
  refine ⟨hown2, hb.grown hg hb.size ?_⟩
  rcases hown.2 with ⟨rfl, _⟩ | ⟨g', cap', cur, rfl, hb', _⟩
  · intro k hk; simp [Value.ownBlock] at hk
  · intro k hk; simp [Value.ownBlock] at hk; omega
theorem elem35 : Try.prog.elem 35 = 5 := by kernel_rfl
theorem size5 (w : World) : (sizeOf 5).run Try.prog w = .ok 1 w := by kernel_rfl
theorem addr_add0 (a : Addr) : a.add 0 = a := by unfold Addr.add; simp
theorem slice_to (w : World) (a : Option Addr) (n cap k : Nat) (hk : k ≤ cap) : (Instr.slice 35 (.slice a n cap) none (some (.int .i64 (k : Int))) none).run Try.prog w = .ok (.slice a k cap) w := by
  rw [run_slice_h (ht := (by rw [elem35]; exact Try.underlying35 : Try.prog.underlying 35 = some (.slice (Try.prog.elem 35)))) (kh := .i64) (h := (k : Int)) (h0 := by omega) (h2 := by omega), elem35, size5]
  simp [sliced, Result.andThen, addr_add0]
theorem slice_from (w : World) (a : Option Addr) (n cap k : Nat) (hk : k ≤ n) : (Instr.slice 35 (.slice a n cap) (some (.int .i64 (k : Int))) none none).run Try.prog w = .ok (.slice (fromA a k cap) (n - k) (cap - k)) w := by
  rw [run_slice_l (ht := (by rw [elem35]; exact Try.underlying35 : Try.prog.underlying 35 = some (.slice (Try.prog.elem 35)))) (kl := .i64) (l := (k : Int)) (h0 := by omega) (h1 := by omega), elem35, size5]
  simp [sliced, Result.andThen, fromA]
def z220 : List Nat := List.replicate 220 0
theorem make220 (w : World) : (Instr.makeSlice 35 (.int .i64 220) (.int .i64 220)).run Try.prog w = .ok (.slice (some ⟨w.heap.size, 0, none⟩) 220 220) (w.alloc (.cells (row8 z220) 5)) := by
  have := run_make_row' 35 5 (.int .u8 0) 1 Try.underlying35 info5 rfl .i64 .i64 220 (by omega) (by omega) w
  rw [made_row8] at this
  exact this
theorem owns_row8 {w : World} {base g n : Nat} {l : List Nat} (h : w.heap[g]? = some (.cells (row8 l) 5 (0, 0))) (hg : base ≤ g) (hn : l.length = n) (hm : n ≤ 1000000) : w.ownsRow base 5 1 (.slice (some ⟨g, 0, none⟩) n n) n (vals l) := by
  subst hn
  exact ⟨by simp [vals_len], .inr ⟨g, l.length, row8 l, rfl, hg, h, Nat.le_refl _, Nat.le_trans hm (by decide), by simp [row8, vals_len], by rw [Nat.mul_one, row8, ← vals_len l, List.take_length]⟩⟩
theorem nx_lt' (l : List Nat) : nx 0 l < 4294967296 := Crc.nx_lt _ _
theorem row_of_owns' {w : World} {base g n cap : Nat} {l : List Nat} (hn : l.length = n) (h : w.ownsRow base 5 1 (.slice (some ⟨g, 0, none⟩) n cap) n (vals l)) (hl : ∀ x ∈ l, x < 256) : n ≤ cap ∧ Row w (some ⟨g, 0, none⟩) l := by
  subst hn
  obtain ⟨a, c, e, h1, _, h3⟩ := row_of_owns h hl
  simp at e
  obtain ⟨rfl, rfl⟩ := e
  exact ⟨h1, h3⟩
theorem owns_low {w : World} {b b' n : Nat} {v : Value} {xs : List Value} (h : w.ownsRow b 5 1 v n xs) (hb : b' ≤ b) : w.ownsRow b' 5 1 v n xs := by
  refine ⟨h.1, ?_⟩
  rcases h.2 with h | ⟨g, cap, cur, h1, h2, h3⟩
  · exact .inl h
  · exact .inr ⟨g, cap, cur, h1, Nat.le_trans hb h2, h3⟩
theorem splice_pad (T : List Nat) : splice (vals z220) 0 (vals T) = vals (pad T) := by
  have e := vals_over z220 0 T
  rw [e]
  unfold over pad z220
  rw [List.take_zero, List.nil_append, Nat.zero_add, List.drop_replicate]
set_option maxRecDepth 10000 in
set_option maxHeartbeats 4000000 in
theorem bytesS_any (w : World) (nb bt : Int) (aj : Option Addr) (nj cj : Nat) (lj : Int) (kj : Nat) (ac : Option Addr) (nc cc : Nat) (lc : Int) (kc : Nat) (sj sc : List Int)
    (hj : IRow w aj sj) (hnj : sj.length = nj) (hmj : nj ≤ 1000) (hc : IRow w ac sc) (hnc : sc.length = nc) (hmc : nc ≤ 1000) (hkj : kj < 4294967296) (hkc : kc < 4294967296)
    (s : Sp) (hs : s = ⟨nb, bt, ⟨sj, lj, kj⟩, ⟨sc, lc, kc⟩⟩) (hok : s.Ok 96) :
    Calls Try.prog 13 #[.agg #[.int .i64 nb, .int .i64 bt, .slice aj nj cj, .int .i64 lj, .int .u32 (kj : Int), .slice ac nc cc, .int .i64 lc, .int .u32 (kc : Int)]] w
      fun e w' => ∃ g cap, e = .returned (.tuple #[.slice (some ⟨g, 0, none⟩) 256 cap, .int .i64 0]) ∧ w'.ownsRow w.heap.size 5 1 (.slice (some ⟨g, 0, none⟩) 256 cap) 256 (vals s.bytes) ∧ Below w.heap.size w w' := by
  have hmay : Sp.may ⟨nb, bt, ⟨sj, lj, kj⟩, ⟨sc, lc, kc⟩⟩ 96 = true := by rw [← hs, may_of_96]; exact decide_eq_true hok
  have hk1 := fun W (hW : Below w.heap.size w W) => may_any W nb bt aj nj cj lj kj ac nc cc lc kc sj sc (hj.below hW) hnj (by omega) (hc.below hW) hnc (by omega) 96
  rw [hmay] at hk1
  have HK1 := hid hk1
  have hf := hok.few
  have hok2 := hok
  rw [hs] at hok2 hf
  obtain ⟨a1, a2, a3, a4, a5, a6⟩ := hok2
  dsimp only at a1 a2 a3 a4 a5 a6 hf
  have HTL := hid (told_len hok)
  have HTB := hid (told_lt hok (by rw [hs]; exact hkj) (by rw [hs]; exact hkc))
  have hk2 := fun W (hW : Below w.heap.size w W) => told_any W nb bt aj nj cj lj kj ac nc cc lc kc sj sc (hj.below hW) hnj hmj (hc.below hW) hnc hmc a1.2 a2.2 (by omega) (by omega) hkj hkc (fun x hx => by have := a3 x (by simp [hx]); omega) (fun x hx => by have := a3 x (by simp [hx]); omega) s.told (by rw [hs])
  have HK2 := hid hk2
  have HN : Hid (nb = (nb.toNat : Nat) ∧ nb.toNat < 4294967296 ∧ s.number.toNat = nb.toNat) := ⟨by omega, by omega, by rw [hs]⟩
  have HSB : Hid (s.bytes = packs 4 (four nb.toNat) (summed s.told)) := by show _ = _; unfold Sp.bytes; rw [hs]
  clear hk1 hk2 hmay hj hnj hmj hc hnc hmc hkj hkc hs hok a1 a2 a3 a4 a5 a6 hf
  obtain ⟨TL, hTL⟩ : ∃ TL, s.told.length = TL := ⟨_, rfl⟩
  obtain ⟨nN, hnN⟩ : ∃ n : Nat, n = nb.toNat := ⟨_, rfl⟩
  rw [← hnN] at HN HSB
  obtain ⟨rfl, hnlt, -⟩ := HN.out
  have hkm := make220
  have HB1 : Hid (Below w.heap.size w (w.alloc (.cells #[.int .i64 (nN : Int), .int .i64 bt, .slice aj nj cj, .int .i64 lj, .int .u32 (kj : Int), .slice ac nc cc, .int .i64 lc, .int .u32 (kc : Int)] 32))) := (Below.refl _ _).alloc (Nat.le_refl _) _
  have HX1 : Hid ((w.alloc (.cells #[.int .i64 (nN : Int), .int .i64 bt, .slice aj nj cj, .int .i64 lj, .int .u32 (kj : Int), .slice ac nc cc, .int .i64 lc, .int .u32 (kc : Int)] 32)).heap[w.heap.size]? = some (.cells #[.int .i64 (nN : Int), .int .i64 bt, .slice aj nj cj, .int .i64 lj, .int .u32 (kj : Int), .slice ac nc cc, .int .i64 lc, .int .u32 (kc : Int)] 32 (0, 0))) := heap_alloc_new _ _
  have HNL := hid hnlt
  clear hnN HN hnlt
  go_enter Try.func13, Try.ntmps13
  go_wp2_with fail
  generalize w.alloc (.cells #[.int .i64 (nN : Int), .int .i64 bt, .slice aj nj cj, .int .i64 lj, .int .u32 (kj : Int), .slice ac nc cc, .int .i64 lc, .int .u32 (kc : Int)] 32) = w1 at *
  generalize hM : w.heap.size = m at *
  have HM := hid hM
  clear hM
  refine (HK1.out w1 HB1.out).mono ?_
  rintro e w2 ⟨rfl, hb2⟩
  have HB2 := hid (HB1.out.trans (hb2.mono (HM.out ▸ HB1.out.size)))
  have hx2 := (hb2.block m (Array.getElem?_eq_some_iff.1 HX1.out).1).trans HX1.out
  have HX2 := hid hx2
  clear hb2 HK1 HB1 HX1 hx2
  have HBM : Hid (Below m w (w2.alloc (.cells (row8 z220) 5))) := HB2.out.alloc (HM.out ▸ HB2.out.size) _
  have hxM := (heap_alloc_old w2 (.cells (row8 z220) 5) (Array.getElem?_eq_some_iff.1 HX2.out).1).trans HX2.out
  have HTX : Hid ((w2.alloc (.cells (row8 z220) 5)).heap[w2.heap.size]? = some (.cells (row8 z220) 5 (0, 0))) := heap_alloc_new _ _
  have HGE : Hid (m < w2.heap.size) := (Array.getElem?_eq_some_iff.1 HX2.out).1
  obtain ⟨d0, d1, d2, d3, d4, d5, d6, d7⟩ := cells8 hxM
  obtain ⟨f0, f1, f2, f3, f4, f5, f6, f7⟩ := cells8 HX2.out
  have HXM := hid hxM
  clear HX2 HB2 hxM
  go_wp2_with fail
  generalize w2.alloc (.cells (row8 z220) 5) = w3 at *
  generalize w2.heap.size = t at *
  clear d0 d1 d2 d3 d4 d5 d6 d7 f0 f1 f2 f3 f4 f5 f6 f7
  rw [hTL] at HTL
  have hk2 := HK2.out w3 HBM.out
  rw [hTL] at hk2
  refine hk2.mono ?_
  rintro e w4 ⟨g4, cap4, rfl, hr4, hb4, -, -⟩
  have HR4 := hid hr4
  have HB4 := hid (HBM.out.trans (hb4.mono (HM.out ▸ HBM.out.size)))
  have HT4 := hid ((hb4.block t (Array.getElem?_eq_some_iff.1 HTX.out).1).trans HTX.out)
  have HX4 := hid ((hb4.block m (Array.getElem?_eq_some_iff.1 HXM.out).1).trans HXM.out)
  have HTLL := hid hTL
  clear hk2 hr4 hb4 HK2 HBM HTX HXM hTL
  have hn220 : s.told.length = Nat.min TL 220 := by rw [HTLL.out]; have := HTL.out; exact (Nat.min_eq_left (by omega)).symm
  have HNF := hid hn220
  clear hn220
  obtain ⟨w5, hw5⟩ : ∃ w5, w5 = w4.setRow t (splice (vals z220) 0 (vals s.told)).toArray := ⟨_, rfl⟩
  have HW5 := hid hw5
  rw [splice_pad] at hw5
  have hp220 : (pad s.told).length = 220 := pad_len (by rw [HTLL.out]; have := HTL.out; omega)
  have hT5 : w5.heap[t]? = some (.cells (row8 (pad s.told)) 5 (0, 0)) := by rw [hw5]; exact setRow_heap _ _ _ _ _ _ HT4.out
  have HB5 : Hid (Below m w w5) := by rw [hw5]; exact below_setRow HB4.out (Nat.le_of_lt HGE.out) _
  have HX5 : Hid (w5.heap[m]? = some (.cells #[.int .i64 (nN : Int), .int .i64 bt, .slice aj nj cj, .int .i64 lj, .int .u32 (kj : Int), .slice ac nc cc, .int .i64 lc, .int .u32 (kc : Int)] 32 (0, 0))) := by rw [hw5]; exact (setRow_other _ _ _ _ (Nat.ne_of_lt HGE.out)).trans HX4.out
  have HP5 : Hid (Buf w5 t (pad s.told)) := ⟨hT5, pad_lt HTB.out⟩
  have HSM : Hid (summed s.told = pad s.told ++ four (nx 0 (pad s.told))) := rfl
  have HSL : Hid (∀ x ∈ summed s.told, x < 256) := summed_lt HTB.out
  have hsum := fun W (hW : Below w5.heap.size w5 W) => Crc.sum_any (some ⟨t, 0, none⟩) (pad s.told) 220 W (HP5.out.row.below hW) (by omega)
  rw [hp220] at hsum
  have HPL := hid hp220
  clear hw5 hT5 HX4 HB4 hp220
  have tok : True := trivial
  go_wp2_with (have _t := tok; refine step_copy rfl _ _ rfl t 0 220 220 (some ⟨g4, 0, none⟩) TL cap4 rfl rfl (vals z220) 5 HT4.out s.told HNF.out HR4.out (by rw [vals_len, HTLL.out]; have := HTL.out; show 0 + TL ≤ 220; omega) ?_; intro w' hw'; obtain rfl := HW5.out.trans hw'.symm; clear tok hw')
  clear HT4 HR4 HNF HW5
  have HSU := hid (nx_lt' (pad s.told))
  generalize nx 0 (pad s.told) = S at *
  have HSUM := hid hsum
  clear hsum
  refine (HSUM.out w5 (Below.refl _ _)).mono ?_
  rintro e w6 ⟨rfl, hb6⟩
  go_wp2_with fail
  refine (Crc.bytes_any S HSU.out w6).mono ?_
  rintro e w7 ⟨rfl, hw7⟩
  have hb7 : Below w5.heap.size w5 w7 := by rw [hw7]; exact hb6.alloc hb6.size _
  have HR7 : Hid (Row w7 (some ⟨w6.heap.size, 0, none⟩) (four S)) := by rw [hw7]; exact row_new w6 (four S) (Crc.four_lt HSU.out) 5 (0, 0)
  have HB7 := hid (HB5.out.trans (hb7.mono (HM.out ▸ HB5.out.size)))
  have HT7 : Hid (w7.heap[t]? = some (.cells (row8 (pad s.told)) 5 (0, 0))) := (hb7.block t (Array.getElem?_eq_some_iff.1 HP5.out.1).1).trans HP5.out.1
  have HX7 := hid ((hb7.block m (Array.getElem?_eq_some_iff.1 HX5.out).1).trans HX5.out)
  have HO7 := hid (owns_row8 (base := w.heap.size) HT7.out (by have := HGE.out; have := HM.out; omega) HPL.out (by decide))
  have HO8 : Hid (w7.ownsRow w.heap.size 5 1 (.slice (some ⟨t, 0, none⟩) 220 220) (pad s.told).length (vals (pad s.told))) := by show World.ownsRow _ _ _ _ _ _ _; rw [HPL.out]; exact HO7.out
  have HB8 : Hid (Below w.heap.size w w7) := by show Below _ _ _; rw [HM.out]; exact HB7.out
  have HSZ : Hid ((pad s.told).length + (four S).length ≤ 1000000000) := by show _ ≤ _; rw [HPL.out, four_len]; decide
  clear hb7 hw7 hb6 HSUM HP5 HX5 HB5
  generalize w6.heap.size = y at *
  have tok : True := trivial
  go_wp2_with (at_builtin; have _t := tok; refine wpList_append_row _ rfl _ _ rfl w.heap.size (.slice (some ⟨t, 0, none⟩) 220 220) (pad s.told) rfl HO8.out _ (four S) 4 4 rfl rfl HR7.out (by simp [four]) HSZ.out HB8.out.size ?_; intro g8 k8 cap8 w8 hk hown8 hg8 _; have HX := own_app0 HB8.out HO8.out hg8 hown8; have d0 := (cells8 ((hg8.block m (Array.getElem?_eq_some_iff.1 HX7.out).1 (by have := HGE.out; simp [Value.ownBlock]; omega)).trans HX7.out)).1; have HKK := hid hk; clear tok hk hown8 hg8)
  rw [show (nN : Int) % 4294967296 = (nN : Int) by have := HNL.out; omega]
  refine (Crc.bytes_any nN HNL.out w8).mono ?_
  rintro e w9 ⟨rfl, hw9⟩
  have hb9 : Below w8.heap.size w8 w9 := by rw [hw9]; exact (Below.refl _ _).alloc (Nat.le_refl _) _
  have HB9 : Hid (Below w.heap.size w w9) := HX.out.2.trans (hb9.mono HX.out.2.size)
  have HE9 : Hid (Row w9 (some ⟨w8.heap.size, 0, none⟩) (four nN)) := by rw [hw9]; exact row_new w8 (four nN) (Crc.four_lt HNL.out) 5 (0, 0)
  have h224 : k8 = 224 := by rw [← HKK.out, List.length_append, HPL.out, four_len]
  have HL9 : Hid ((summed s.told).length = 224) := by show _ = _; rw [HSM.out, HKK.out, h224]
  have hown9 := HX.out.1
  rw [← HSM.out, h224] at hown9
  obtain ⟨hc9, hr9⟩ := row_of_owns' HL9.out hown9 HSL.out
  rw [h224]
  have HR9 := hid (hr9.below hb9)
  have HC9 := hid hc9
  clear hw9 hb9 d0 hr9 hc9 hown9 h224 HX HX7 HT7 HO7 HO8 HB7 HB8 HR7 HSZ HPL HKK HSM HSU
  generalize w8.heap.size = E at *
  go_wp2_with fail
  go_loopg [4, 6] 4 (fun k v4 v6 wr => ∃ (a : Option Addr) (l : List Nat) (n cp : Nat) (pre : List Nat), v4 = .slice a n cp ∧ l.length = n ∧ n = 56 * k ∧ n ≤ cp ∧ k ≤ 4 ∧ Row w9 a l ∧ wr.ownsRow w9.heap.size 5 1 v6 pre.length (vals pre) ∧ Below w9.heap.size w9 wr ∧ Hid (pre ++ packs k (four nN) l = s.bytes) ∧ pre.length + 64 * k = 256)
  case atStart => exact ⟨_, summed s.told, 224, cap8, [], rfl, HL9.out, rfl, HC9.out, by decide, HR9.out, World.ownsRow_nil _ _ 5 1, Below.refl _ _, hid (by rw [HSB.out]; exact List.nil_append _), rfl⟩
  case round =>
    obtain ⟨a, l, n, cp, pre, rfl, hl, hn, hcp, hk4, hrow, hown, hb, ht, hpl⟩ := hrel
    have HLn := hid hl
    have HROW := hid hrow
    have HOWN := hid hown
    have HBr := hid hb
    by_cases h0 : gk = 0
    · obtain rfl : n = 0 := by omega
      have HTe : Hid (pre = s.bytes) := by
        have e := ht.out
        rw [h0, packs, List.append_nil] at e
        exact e
      have hp256 : pre.length = 256 := by omega
      obtain ⟨g, cap, rfl, _, _⟩ := HOWN.out.form (by omega)
      have HO := hid (And.intro hown hp256)
      rw [hp256]
      clear hl hrow hown hb ht hn hcp HOWN
      go_wp2_with fail
      go_ret2
      have e := HO.out.2
      have hown := HO.out.1
      rw [e] at hown
      refine ⟨g, cap, rfl, ?_, HB9.out.trans (HBr.out.mono HB9.out.size)⟩
      rw [← HTe.out]
      exact owns_low hown HB9.out.size
    · obtain ⟨k, rfl⟩ : ∃ k, gk = k + 1 := ⟨gk - 1, by omega⟩
      have hpos : (0 : Int) < (n : Int) := by omega
      have hsl : ∀ w, (Instr.slice 35 (.slice a n cp) none (some (.int .i64 56)) none).run Try.prog w = .ok (.slice a 56 cp) w := fun w => slice_to w a n cp 56 (by omega)
      have hsf : ∀ w, (Instr.slice 35 (.slice a n cp) (some (.int .i64 56)) none none).run Try.prog w = .ok (.slice (fromA a 56 cp) (n - 56) (cp - 56)) w := fun w => slice_from w a n cp 56 (by omega)
      have HRD := hid (row_drop hrow 56 cp (by omega))
      generalize fromA a 56 cp = a' at *
      have HR1 := hid (HE9.out.below hb)
      have HR2 := hid (row_take (hrow.below hb) 56)
      have HT56 : Hid ((l.take 56).length = 56) := by show _ = _; rw [List.length_take]; omega
      have HS1 : Hid (pre.length + (four nN).length ≤ 1000000000) := by show _ ≤ _; rw [four_len]; omega
      have HS2 : Hid ((pre ++ four nN).length + (l.take 56).length ≤ 1000000000) := by show _ ≤ _; rw [List.length_append, four_len, HT56.out]; omega
      have HS3 : Hid ((pre ++ four nN ++ l.take 56).length + (four nN).length ≤ 1000000000) := by show _ ≤ _; rw [List.length_append, List.length_append, four_len, HT56.out]; omega
      have hne4 : four nN ≠ [] := by simp [four]
      have hne56 : l.take 56 ≠ [] := fun e => by have h := HT56.out; rw [e] at h; simp at h
      have HT2 : Hid ((pre ++ four nN ++ l.take 56 ++ four nN) ++ packs k (four nN) (l.drop 56) = s.bytes) := by
        have e := ht.out
        rw [packs] at e
        rw [← e]
        show _ = _
        simp only [List.append_assoc]
      have HNU := hid (And.intro hn (And.intro hcp (And.intro hk4 (And.intro hpl hl))))
      have HN4 := hid hne4
      have HN56 := hid hne56
      clear hl hrow hown hb ht hn hcp hk4 hpl hne4 hne56
      have tok1 : True := trivial
      have tok2 : True := trivial
      have tok3 : True := trivial
      go_wp2_with (first
        | (at_builtin; have _t := tok1; refine wpList_append_row _ rfl _ _ rfl w9.heap.size u6 pre rfl HOWN.out _ (four nN) 4 4 rfl rfl HR1.out HN4.out HS1.out HBr.out.size ?_; intro g1 k1 c1 x1 hk1 ho1 hg1 _; have HX1 := own_app0 HBr.out HOWN.out hg1 ho1; rw [← hk1] at HX1; have HK1 := hid hk1; clear tok1 ho1 hg1 hk1)
        | (at_builtin; have _t := tok2; refine wpList_append_row _ rfl _ _ rfl w9.heap.size _ (pre ++ four nN) rfl (by have h := HX1.out.1; rw [HK1.out] at h; rw [HK1.out]; exact h) _ (l.take 56) 56 _ rfl HT56.out (row_take (HROW.out.below HX1.out.2) 56) HN56.out HS2.out HX1.out.2.size ?_; intro g2 k2 c2 x2 hk2 ho2 hg2 _; have HX2 := own_app0 HX1.out.2 HX1.out.1 (by have h := hg2; rw [HK1.out]; exact h) ho2; rw [← hk2] at HX2; have HK2 := hid hk2; clear tok2 ho2 hg2 hk2)
        | (at_builtin; have _t := tok3; refine wpList_append_row _ rfl _ _ rfl w9.heap.size _ (pre ++ four nN ++ l.take 56) rfl (by have h := HX2.out.1; rw [HK2.out] at h; rw [HK2.out]; exact h) _ (four nN) 4 4 rfl rfl (HE9.out.below HX2.out.2) HN4.out HS3.out HX2.out.2.size ?_; intro g3 k3 c3 x3 hk3 ho3 hg3 _; have HX3 := own_app0 HX2.out.2 HX2.out.1 (by have h := hg3; rw [HK2.out]; exact h) ho3; have HK3 := hid hk3; clear tok3 ho3 hg3 hk3))
      go_roundg k
      case measure => omega
      case rel =>
        have hh := HNU.out
        refine ⟨a', l.drop 56, n - 56, cp - 56, pre ++ four nN ++ l.take 56 ++ four nN, rfl, by rw [List.length_drop]; omega, by omega, by omega, by omega, HRD.out, ?_, HX3.out.2, HT2, ?_⟩
        · rw [HK3.out]; exact HX3.out.1
        · rw [HK3.out, ← HK3.out, List.length_append, List.length_append, List.length_append, four_len, HT56.out]; omega
set_option maxRecDepth 10000 in
set_option maxHeartbeats 1000000 in
theorem bytesS_no (w : World) (nb bt : Int) (aj : Option Addr) (nj cj : Nat) (lj : Int) (kj : Nat) (ac : Option Addr) (nc cc : Nat) (lc : Int) (kc : Nat) (sj sc : List Int)
    (hj : IRow w aj sj) (hnj : sj.length = nj) (hmj : nj ≤ 1000000000) (hc : IRow w ac sc) (hnc : sc.length = nc) (hmc : nc ≤ 1000000000)
    (hmay : Sp.may ⟨nb, bt, ⟨sj, lj, kj⟩, ⟨sc, lc, kc⟩⟩ 96 = false) :
    Calls Try.prog 13 #[.agg #[.int .i64 nb, .int .i64 bt, .slice aj nj cj, .int .i64 lj, .int .u32 (kj : Int), .slice ac nc cc, .int .i64 lc, .int .u32 (kc : Int)]] w
      fun e w' => e = .returned (.tuple #[.slice none 0 0, .int .i64 1]) ∧ Below w.heap.size w w' := by
  have hk1 := fun W (hW : Below w.heap.size w W) => may_any W nb bt aj nj cj lj kj ac nc cc lc kc sj sc (hj.below hW) hnj (by omega) (hc.below hW) hnc (by omega) 96
  rw [hmay] at hk1
  have HK1 := hid hk1
  clear hj hnj hmj hc hnc hmc hmay hk1
  have HB1 : Hid (Below w.heap.size w (w.alloc (.cells #[.int .i64 nb, .int .i64 bt, .slice aj nj cj, .int .i64 lj, .int .u32 (kj : Int), .slice ac nc cc, .int .i64 lc, .int .u32 (kc : Int)] 32))) := (Below.refl _ _).alloc (Nat.le_refl _) _
  go_enter Try.func13, Try.ntmps13
  go_wp2_with fail
  refine (HK1.out _ HB1.out).mono ?_
  rintro e w2 ⟨rfl, hb2⟩
  have HB2 := hid (HB1.out.trans (hb2.mono HB1.out.size))
  clear hb2 HK1 HB1
  go_wp2_with fail
  go_ret2
  exact ⟨rfl, HB2.out⟩
end Go.Proofs.Ytmfmhlhpleahpaa
