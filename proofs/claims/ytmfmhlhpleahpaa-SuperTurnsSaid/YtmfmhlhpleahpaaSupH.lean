/- What the program's Read answers of a slot whose sectors are there, on a disk that is alive. -/
import Derived.Test.YtmfmhlhpleahpaaSupG
namespace Go.Proofs.Ytmfmhlhpleahpaa
open Go.RowKit Pen
open Crc (four nx)
def slotFrom (d : Dk) (s : Nat) : Nat → List Nat
  | 0 => []
  | k + 1 => d.read (s * 4 + (3 - k)) ++ slotFrom d s k
/-- A slot's bytes. -/
def Dk.slot (d : Dk) (s : Nat) : List Nat := slotFrom d s 4
set_option maxRecDepth 10000 in
set_option maxHeartbeats 4000000 in
theorem readS_ok {w : World} {q p : Nat} {d : Dk} (h : DiskAt w q p d) (hdead : d.dead = false) (s : Nat) (hs : s < 2) (hn : s * 4 + 4 ≤ d.secs.length) (k : Int) :
    Calls Try.prog 22 #[.pointer (some ⟨q, 0, none⟩), .int .i64 (s : Int), .int .i64 k] w fun e w' => Parsed w.heap.size e w' (parse (d.slot s) k) ∧ Below w.heap.size w w' := by
  obtain ⟨w1, hw1⟩ : ∃ w1, w1 = w.alloc (.cells #[.int .i64 0, .int .i64 0, .slice none 0 0, .int .i64 0, .int .u32 0, .slice none 0 0, .int .i64 0, .int .u32 0] 32) := ⟨_, rfl⟩
  have hb1 : Below w.heap.size w w1 := by rw [hw1]; exact (Below.refl _ _).alloc (Nat.le_refl _) _
  have hy1 : w1.heap[w.heap.size]? = some (.cells #[.int .i64 0, .int .i64 0, .slice none 0 0, .int .i64 0, .int .u32 0, .slice none 0 0, .int .i64 0, .int .u32 0] 32 (0, 0)) := by rw [hw1]; exact heap_alloc_new _ _
  have hs1 : w1.heap.size = w.heap.size + 1 := by rw [hw1]; simp
  have hsl : isSlot (s : Int) = true := by rcases (by omega : s = 0 ∨ s = 1) with rfl | rfl <;> rfl
  have hki := isSlot_any (s : Int)
  rw [hsl] at hki
  have HW1 := hid hw1
  have HB1 := hid hb1
  have HY1 := hid hy1
  have HS1 := hid hs1
  have HD1 := hid (h.below hb1)
  have HDE := hid hdead
  have HN := hid hn
  have HKI := hid hki
  have HSL : Hid (d.slot s = slotFrom d s 4) := rfl
  have hsi : (s : Int) < 2 := by omega
  clear hw1 hb1 hy1 hs1 h hdead hn hsl hki
  go_enter Try.func22, Try.ntmps22
  go_wp2_with fail
  refine (HKI.out _).mono ?_
  rintro e w2 ⟨rfl, rfl⟩
  rw [← HW1.out]
  clear HKI HW1
  go_wp2_with fail
  go_loopg [8, 9, 10, 11, 16] 4 (fun t v8 v9 v10 v11 v16 wr => ∃ (i : Nat) (pre : List Nat), i + t = 4 ∧ v16 = .int .i64 (i : Int) ∧ wr.ownsRow w1.heap.size 5 1 v8 pre.length (vals pre) ∧ Below w1.heap.size w1 wr ∧ pre.length = 64 * i ∧ (∀ x ∈ pre, x < 256) ∧ Hid (pre ++ slotFrom d s t = d.slot s))
  case atStart => exact ⟨0, [], rfl, rfl, World.ownsRow_nil _ _ 5 1, Below.refl _ _, rfl, by simp, hid (by rw [HSL.out]; exact List.nil_append _)⟩
  case round =>
    obtain ⟨i, pre, hi, rfl, hown, hb, hpl, hpx, ht⟩ := hrel
    have HOWN := hid hown
    have HBr := hid hb
    have HPX := hid (And.intro hpx hpl)
    by_cases hi4 : i < 4
    · obtain ⟨t, rfl⟩ : ∃ t, gk = t + 1 := ⟨gk - 1, by omega⟩
      have hii : (i : Int) < 4 := by omega
      have HT := hid ht.out
      have HII := hid (And.intro hi hi4)
      have HDr := hid (HD1.out.below hb)
      clear hown hb hpl hpx ht hi
      go_wp2_with fail
      rw [show (s : Int) * 4 + (i : Int) = ((s * 4 + i : Nat) : Int) by omega]
      refine (read_ok (i := s * 4 + i) HDr.out HDE.out (by have := HN.out; omega)).mono ?_
      rintro e w5 ⟨g5, rfl, hg5, hb5, -⟩
      have hown5 : w5.ownsRow w1.heap.size 5 1 u8 pre.length (vals pre) := by
        refine ⟨HOWN.out.1, ?_⟩
        rcases HOWN.out.2 with h | ⟨g, cap, cur, e, hb', hg, hc⟩
        · exact .inl h
        · exact .inr ⟨g, cap, cur, e, hb', (hb5.block g (Array.getElem?_eq_some_iff.1 hg).1).trans hg, hc⟩
      have HO5 := hid hown5
      have HB5 := hid (HBr.out.trans (hb5.mono HBr.out.size))
      have HL5 : Hid ((d.read (s * 4 + i)).length = 64) := read_len HDr.out (by have := HN.out; omega)
      have HR5 := hid hg5.row
      have hne : d.read (s * 4 + i) ≠ [] := fun e => by have h := HL5.out; rw [e] at h; simp at h
      have HNE := hid hne
      have HSZ : Hid (pre.length + (d.read (s * 4 + i)).length ≤ 1000000000) := by show _ ≤ _; rw [HL5.out]; have := HPX.out.2; have := HII.out; omega
      have HT2 : Hid ((pre ++ d.read (s * 4 + i)) ++ slotFrom d s t = d.slot s) := by
        have e := HT.out
        rw [slotFrom, show 3 - t = i by have := HII.out; omega] at e
        rw [← e]
        show _ = _
        simp only [List.append_assoc]
      clear hown5 hg5 hb5 hne HOWN HBr
      have tok1 : True := trivial
      go_wp2_with (at_builtin; have _t := tok1; refine wpList_append_row _ rfl _ _ rfl w1.heap.size u8 pre rfl HO5.out _ (d.read (s * 4 + i)) 64 64 rfl HL5.out HR5.out HNE.out HSZ.out HB5.out.size ?_; intro g1 k1 c1 x1 hk1 ho1 hg1 _; have HX1 := own_app0 HB5.out HO5.out hg1 ho1; have HK1 := hid hk1; clear tok1 ho1 hg1 hk1)
      go_roundg t
      case measure => omega
      case rel =>
        refine ⟨i + 1, pre ++ d.read (s * 4 + i), by have := HII.out; omega, by go_num, ?_, HX1.out.2, by rw [List.length_append, HL5.out, HPX.out.2]; omega, ?_, HT2⟩
        · rw [HK1.out]; exact HX1.out.1
        · intro x hx
          rcases List.mem_append.1 hx with h | h
          · exact HPX.out.1 x h
          · exact HR5.out.1 x h
    · have hii : ¬ (i : Int) < 4 := by omega
      obtain rfl : i = 4 := by omega
      obtain rfl : gk = 0 := by omega
      have HTe : Hid (pre = d.slot s) := by
        have e := ht.out
        rw [slotFrom, List.append_nil] at e
        exact e
      have hp : pre.length = 256 := by omega
      obtain ⟨g, cap, rfl, _, _⟩ := HOWN.out.form (by omega)
      have hown2 := hown
      rw [hp] at hown2
      obtain ⟨hcp, hrp⟩ := row_of_owns' hp hown2 hpx
      have kp := parse_any wr (some ⟨g, 0, none⟩) pre 256 cap hrp hp hcp k
      rw [HTe.out] at kp
      have HKP := hid kp
      rw [hp]
      clear hown hb hpl hpx ht hi hown2 hrp kp hcp HOWN hp
      go_wp2_with fail
      refine HKP.out.mono ?_
      rintro e w6 ⟨hpar, hb6⟩
      have HB6 := hid (HBr.out.trans (hb6.mono HBr.out.size))
      have hyE := (HB6.out.block w.heap.size (by have := HS1.out; omega)).trans HY1.out
      have HYE := hid hyE
      generalize hPP : parse (d.slot s) k = PP at *
      have HPP := hid hPP
      cases PP with
      | none =>
        obtain rfl : e = _ := hpar
        have HSTE := hid (store_zero hyE)
        clear hb6 hyE HKP hPP
        have tok : True := trivial
        go_wp2_with (have _t := tok; refine step_store 32 rfl _ _ rfl _ HSTE.out ?_; clear tok)
        refine bodyPost_ret (ret_pair Try.results22 _ _ w.heap.size _ rfl (setRow_heap _ _ _ _ _ _ HYE.out) rfl) rfl ⟨?_, below_setRow (HB1.out.trans (HB6.out.mono HB1.out.size)) (Nat.le_refl _) _⟩
        rw [HPP.out]
        rfl
      | some S =>
        obtain ⟨aj, nj, cj, ac, nc, cc, rfl, h1, h2, h3, h4, h5, h6⟩ := hpar
        obtain ⟨nb, bt, ⟨sj, lj, kj⟩, ⟨sc, lc, kc⟩⟩ := S
        dsimp only at h1 h2 h3 h4
        have HSTE := hid (store_slot (nb := nb) (bt := bt) (lj := lj) (lc := lc) (aj := aj) (ac := ac) (nj := nj) (cj := cj) (nc := nc) (cc := cc) (kj := kj) (kc := kc) hyE)
        have hlow := HBr.out.size
        have HJA : Hid (∀ v, aj = some v → w.heap.size < v.block) := fun v hv => by have := h5 v hv; have := HS1.out; omega
        have HCA : Hid (∀ v, ac = some v → w.heap.size < v.block) := fun v hv => by have := h6 v hv; have := HS1.out; omega
        have HRJ := hid (h3.setRow (cs := #[.int .i64 nb, .int .i64 bt, .slice aj nj cj, .int .i64 lj, .int .u32 (kj : Int), .slice ac nc cc, .int .i64 lc, .int .u32 (kc : Int)]) (y := w.heap.size) (fun v hv => by have := HJA.out v hv; omega))
        have HRC := hid (h4.setRow (cs := #[.int .i64 nb, .int .i64 bt, .slice aj nj cj, .int .i64 lj, .int .u32 (kj : Int), .slice ac nc cc, .int .i64 lc, .int .u32 (kc : Int)]) (y := w.heap.size) (fun v hv => by have := HCA.out v hv; omega))
        have HNN := hid (And.intro h1 h2)
        clear hb6 hyE HKP hPP h1 h2 h3 h4 h5 h6 hlow
        have tok : True := trivial
        go_wp2_with (have _t := tok; refine step_store 32 rfl _ _ rfl _ HSTE.out ?_; clear tok)
        refine bodyPost_ret (ret_pair Try.results22 _ _ w.heap.size _ rfl (setRow_heap _ _ _ _ _ _ HYE.out) rfl) rfl ⟨?_, below_setRow (HB1.out.trans (HB6.out.mono HB1.out.size)) (Nat.le_refl _) _⟩
        rw [HPP.out]
        exact ⟨aj, nj, cj, ac, nc, cc, rfl, HNN.out.1, HNN.out.2, HRJ.out, HRC.out, fun v hv => Nat.le_of_lt (HJA.out v hv), fun v hv => Nat.le_of_lt (HCA.out v hv)⟩
end Go.Proofs.Ytmfmhlhpleahpaa
