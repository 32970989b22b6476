/- What the program hears and parses: heard, bytes.Equal. Condition: 256 bytes. -/
import Derived.Test.YtmfmhlhpleahpaaSupE
namespace Go.Proofs.Ytmfmhlhpleahpaa
open Go.RowKit Pen
open Crc (four nx)
theorem slice_mid (w : World) (a : Option Addr) (n cap k h : Nat) (hk : k ≤ h) (hh : h ≤ cap) : (Instr.slice 35 (.slice a n cap) (some (.int .i64 (k : Int))) (some (.int .i64 (h : Int))) none).run Try.prog w = .ok (.slice (fromA a k cap) (h - k) (cap - k)) w := by
  rw [run_slice_lh (ht := (by rw [elem35]; exact Try.underlying35 : Try.prog.underlying 35 = some (.slice (Try.prog.elem 35)))) (kl := .i64) (kh := .i64) (l := (k : Int)) (h := (h : Int)) (h0 := by omega) (h1 := by omega) (h2 := by omega), elem35, size5]
  simp [sliced, Result.andThen, fromA]
  try omega
theorem Only.low1 {q base : Nat} {w w' : World} (h : Only q none w w') (hq : base ≤ q) (hb : base ≤ w.heap.size) : Below base w w' := h.below hq (by simp) hb
theorem IRow.eye {w w' : World} {q : Nat} {a : Option Addr} {l : List Int} (h : IRow w a l) (ho : Only q none w w') (hq : ∀ v, a = some v → v.block ≠ q) : IRow w' a l := by
  rcases h with h | ⟨b, off, ha, hlt, hc⟩
  · exact .inl h
  · refine .inr ⟨b, off, ha, Nat.lt_of_lt_of_le hlt ho.size, fun k hk => ?_⟩
    rw [← hc k hk]
    have : w'.heap[b]? = w.heap[b]? := ho.block b hlt (hq _ ha) (by simp)
    simp only [World.cell?, this]
theorem IRow.setRow {w : World} {y : Nat} {a : Option Addr} {l : List Int} {cs : Array Value} (h : IRow w a l) (hq : ∀ v, a = some v → v.block ≠ y) : IRow (w.setRow y cs) a l := by
  rcases h with h | ⟨b, off, ha, hlt, hc⟩
  · exact .inl h
  · refine .inr ⟨b, off, ha, by simpa [World.setRow] using hlt, fun k hk => ?_⟩
    rw [← hc k hk]
    have : (w.setRow y cs).heap[b]? = w.heap[b]? := setRow_other _ _ _ _ (hq _ ha)
    simp only [World.cell?, this]
theorem eN_len (l : List Nat) : (eN l).2.length ≤ l.length := by
  obtain ⟨k, hk⟩ := eNum_sub 9 0 0 l
  show (eNum 9 0 0 l).2.1.length ≤ l.length
  rw [hk, List.length_drop]; omega
theorem hLog_len (l : List Nat) : (hLog l).2.length ≤ l.length := by
  have h1 := eN_len l
  have h2 := eN_len (hRest l)
  have h3 : (hRest l).length ≤ (eN l).2.length := by unfold hRest; rw [List.length_drop]; omega
  show ((eN (hRest l)).2.drop 4).length ≤ _
  rw [List.length_drop]; omega
theorem mids_len : ∀ (k : Nat) (l : List Nat), (mids k l).length ≤ 56 * k
  | 0, _ => by simp [mids]
  | k + 1, l => by
    have := mids_len k (l.drop 64)
    simp only [mids, List.length_append, List.length_take]
    omega
theorem size30 : (Try.prog.info? 30).map (·.size) = some 3 := by kernel_rfl
theorem strs_same (a b : List Nat) (ha : ∀ x ∈ a, x < 256) (hb : ∀ x ∈ b, x < 256) : ((strOf a).toList == (strOf b).toList) = decide (a = b) := by
  rw [ByteArray.toList_eq, ByteArray.toList_eq]
  by_cases h : a = b
  · subst h; simp
  · have h1 : strOf a ≠ strOf b := fun e => h ((strOf_inj ha hb).1 e)
    have h2 : (strOf a).data.toList ≠ (strOf b).data.toList := by
      intro e
      apply h1
      have : (strOf a).data = (strOf b).data := by simpa using e
      cases ha' : strOf a; cases hb' : strOf b
      simp_all
    simp [h]
    exact fun e => h2 (by rw [e])
theorem equal_any {w : World} (a b : Option Addr) (l m : List Nat) (n k c d : Nat) (hl : l.length = n) (hm : m.length = k) (hr : Row w a l) (hs : Row w b m) :
    Calls Try.prog 31 #[.slice a n c, .slice b k d] w fun e w' => e = .returned (.bool (decide (l = m))) ∧ w' = w := by
  have h1 := str_any w a l n c hl hr
  have h2 := str_any w b m k d hm hs
  have h3 := strs_same l m hr.1 hs.1
  generalize strOf l = S at *
  generalize strOf m = T at *
  generalize decide (l = m) = z at *
  clear hr hs
  go_enter Try.func31, Try.ntmps31
  go_wp2
  go_ret
  exact ⟨rfl, rfl⟩
set_option maxRecDepth 10000 in
set_option maxHeartbeats 4000000 in
theorem heard_any {w : World} (a : Option Addr) (b : List Nat) (cp : Nat) (hr : Row w a b) (hl : b.length = 256) (hcp : 256 ≤ cp) :
    Calls Try.prog 30 #[.slice a 256 cp] w fun e w' => ∃ aj nj cj ac nc cc, e = .returned (.agg #[.int .i64 (heard b).number, .int .i64 (heard b).boot, .slice aj nj cj, .int .i64 (heard b).j.len, .int .u32 ((heard b).j.last : Int), .slice ac nc cc, .int .i64 (heard b).c.len, .int .u32 ((heard b).c.last : Int)]) ∧
      (heard b).j.segs.length = nj ∧ (heard b).c.segs.length = nc ∧ IRow w' aj (heard b).j.segs ∧ IRow w' ac (heard b).c.segs ∧ Below w.heap.size w w' ∧ (∀ v, aj = some v → w.heap.size < v.block) ∧ (∀ v, ac = some v → w.heap.size < v.block) := by
  obtain ⟨w1, hw1⟩ : ∃ w1, w1 = w.alloc (.cells #[.int .i64 0, .int .i64 0, .slice none 0 0, .int .i64 0, .int .u32 0, .slice none 0 0, .int .i64 0, .int .u32 0] 32) := ⟨_, rfl⟩
  have hb1 : Below w.heap.size w w1 := by rw [hw1]; exact (Below.refl _ _).alloc (Nat.le_refl _) _
  have hy1 : w1.heap[w.heap.size]? = some (.cells #[.int .i64 0, .int .i64 0, .slice none 0 0, .int .i64 0, .int .u32 0, .slice none 0 0, .int .i64 0, .int .u32 0] 32 (0, 0)) := by rw [hw1]; exact heap_alloc_new _ _
  have hs1 : w1.heap.size = w.heap.size + 1 := by rw [hw1]; simp
  have HR1 := hid (hr.below hb1)
  have HB1 := hid hb1
  have HY1 := hid hy1
  have HS1 := hid hs1
  have HHE : Hid (heard b = hSp (mids 4 b)) := rfl
  have HRB := hid hr.1
  clear hb1 hy1 hs1 hr
  go_enter Try.func30, Try.ntmps30
  go_wp2_with fail
  rw [← hw1]
  clear hw1
  go_loopg [0, 3] 4 (fun k v0 v3 wr => ∃ (a : Option Addr) (l : List Nat) (n cp : Nat) (pre : List Nat), v0 = .slice a n cp ∧ l.length = n ∧ n = 64 * k ∧ n ≤ cp ∧ k ≤ 4 ∧ Row w1 a l ∧ wr.ownsRow w1.heap.size 5 1 v3 pre.length (vals pre) ∧ Below w1.heap.size w1 wr ∧ Hid (pre ++ mids k l = mids 4 b) ∧ pre.length + 56 * k = 224 ∧ ∀ x ∈ pre, x < 256)
  case atStart => exact ⟨a, b, 256, cp, [], rfl, hl, rfl, hcp, by decide, HR1.out, World.ownsRow_nil _ _ 5 1, Below.refl _ _, hid (List.nil_append _), rfl, by simp⟩
  case round =>
    obtain ⟨a, l, n, cp, pre, rfl, hl, hn, hcp, hk4, hrow, hown, hb, ht, hpl, hpx⟩ := hrel
    have HLn := hid hl
    have HROW := hid hrow
    have HOWN := hid hown
    have HBr := hid hb
    have HPX := hid hpx
    by_cases h0 : gk = 0
    · obtain rfl : n = 0 := by omega
      have HTe : Hid (pre = mids 4 b) := by
        have e := ht.out
        rw [h0, mids, List.append_nil] at e
        exact e
      have hp : pre.length = 224 := by omega
      obtain ⟨g, cap, rfl, _, _⟩ := HOWN.out.form (by omega)
      have hown2 := hown
      rw [hp] at hown2
      obtain ⟨_, hrp⟩ := row_of_owns' hp hown2 hpx
      have kn := Pen.new_any (w := wr) (some ⟨g, 0, none⟩) pre 224 cap hp hrp
      rw [hp]
      have HP := hid hp
      have HKN := hid kn
      clear hl hrow hown hb ht hn hcp hown2 hrp kn hpx
      go_wp2_with fail
      refine HKN.out.mono ?_
      rintro e w2 ⟨rfl, hw2⟩
      have hb2 : Below wr.heap.size wr w2 := by rw [hw2]; exact (Below.refl _ _).alloc (Nat.le_refl _) _
      have HE2 : Hid (EyeAt w2 wr.heap.size pre false) := by rw [hw2]; exact Pen.EyeAt.new wr pre HPX.out
      have HB2 := hid (HBr.out.trans (hb2.mono HBr.out.size))
      have HQ : Hid (w1.heap.size ≤ wr.heap.size) := HBr.out.size
      clear hw2 hb2 HKN HBr HOWN
      generalize wr.heap.size = q at *
      go_wp2_with fail
      refine (byte_any HE2.out).mono ?_
      rintro e w3 ⟨rfl, he3, ho3⟩
      have HE3 := hid he3
      have HB3 := hid (HB2.out.trans (ho3.low1 HQ.out HB2.out.size))
      clear he3 ho3 HE2 HB2
      go_wp2_with fail
      refine (byte_any HE3.out).mono ?_
      rintro e w4 ⟨rfl, he4, ho4⟩
      have e2 : pre.tail.tail = (mids 4 b).drop 2 := by rw [HTe.out, ← List.drop_one, ← List.drop_one, List.drop_drop]
      rw [e2] at he4
      have HB4 := hid (HB3.out.trans (ho4.low1 HQ.out HB3.out.size))
      obtain ⟨w5, hw5⟩ : ∃ w5, w5 = w4.alloc (.cells #[.int .i64 0, .int .i64 0, .slice none 0 0, .int .i64 0, .int .u32 0, .slice none 0 0, .int .i64 0, .int .u32 0] 32) := ⟨_, rfl⟩
      have hb5 : Below w4.heap.size w4 w5 := by rw [hw5]; exact (Below.refl _ _).alloc (Nat.le_refl _) _
      have HE5 := hid (he4.below hb5)
      have HB5 := hid (HB4.out.trans (hb5.mono HB4.out.size))
      have HX5 : Hid (w5.heap[w4.heap.size]? = some (.cells #[.int .i64 0, .int .i64 0, .slice none 0 0, .int .i64 0, .int .u32 0, .slice none 0 0, .int .i64 0, .int .u32 0] 32 (0, 0))) := by rw [hw5]; exact heap_alloc_new _ _
      have HXQ : Hid (w4.heap.size ≠ q) := by have := he4.lt; show _ ≠ _; omega
      have HXL : Hid (w1.heap.size ≤ w4.heap.size) := HB4.out.size
      have HW5 := hid hw5
      generalize (false || pre.isEmpty || pre.tail.isEmpty) = bd at *
      clear he4 ho4 HE3 HB3 e2 hb5 hw5
      go_wp2_with fail
      rw [← HW5.out]
      clear HW5 HB4
      generalize w4.heap.size = x at *
      generalize hL0 : (mids 4 b).drop 2 = L0 at *
      have HL0 := hid hL0
      clear hL0
      refine (num_any HE5.out).mono ?_
      rintro e w6 ⟨rfl, he6, ho6⟩
      rw [show ((eNum 9 0 0 L0).1) = (eN L0).1 from rfl]
      rw [show ((eNum 9 0 0 L0).2.1) = (eN L0).2 from rfl] at he6
      have hx6 := (ho6.block x (Array.getElem?_eq_some_iff.1 HX5.out).1 HXQ.out (by simp)).trans HX5.out
      generalize (bd || (eNum 9 0 0 L0).2.2) = bd6 at *
      have HB6 := hid (HB5.out.trans (ho6.low1 HQ.out HB5.out.size))
      obtain ⟨c0, _, _, _, _, _, _, _⟩ := cells8 hx6
      have f0 := frozen_of_row w6 x 0 _ 32 hx6
      have HX7 : Hid ((w6.setCell ⟨x, 0, none⟩ (.int .i64 (((eN L0).1 : Nat) : Int))).heap[x]? = some (.cells #[.int .i64 (((eN L0).1 : Nat) : Int), .int .i64 0, .slice none 0 0, .int .i64 0, .int .u32 0, .slice none 0 0, .int .i64 0, .int .u32 0] 32 (0, 0))) := by
        show _ = _
        rw [heap_setCell_same _ _ _ _ _ _ hx6]; rfl
      have HE7 := hid (he6.kept (Below.heap_setCell w6 ⟨x, 0, none⟩ (.int .i64 (((eN L0).1 : Nat) : Int)) q (Ne.symm HXQ.out)))
      have HB7 := hid (HB6.out.setCell (p := ⟨x, 0, none⟩) HXL.out (.int .i64 (((eN L0).1 : Nat) : Int)))
      clear he6 ho6 hx6 HE5 HB5 HX5 HB6
      go_wp2_with fail
      generalize w6.setCell ⟨x, 0, none⟩ (.int .i64 (((eN L0).1 : Nat) : Int)) = w7 at *
      clear c0 f0
      refine (num_any HE7.out).mono ?_
      rintro e w8 ⟨rfl, he8, ho8⟩
      rw [show ((eNum 9 0 0 (eN L0).2).1) = (eN (eN L0).2).1 from rfl]
      rw [show ((eNum 9 0 0 (eN L0).2).2.1) = (eN (eN L0).2).2 from rfl] at he8
      have hx8 := (ho8.block x (Array.getElem?_eq_some_iff.1 HX7.out).1 HXQ.out (by simp)).trans HX7.out
      generalize (bd6 || (eNum 9 0 0 (eN L0).2).2.2) = bd8 at *
      have HB8 := hid (HB7.out.trans (ho8.low1 HQ.out HB7.out.size))
      obtain ⟨_, c1, _, _, _, _, _, _⟩ := cells8 hx8
      have f1 := frozen_of_row w8 x 1 _ 32 hx8
      have HX9 : Hid ((w8.setCell ⟨x, 1, none⟩ (.int .i64 (((eN (eN L0).2).1 : Nat) : Int))).heap[x]? = some (.cells #[.int .i64 (((eN L0).1 : Nat) : Int), .int .i64 (((eN (eN L0).2).1 : Nat) : Int), .slice none 0 0, .int .i64 0, .int .u32 0, .slice none 0 0, .int .i64 0, .int .u32 0] 32 (0, 0))) := by
        show _ = _
        rw [heap_setCell_same _ _ _ _ _ _ hx8]; rfl
      have HE9 := hid (he8.kept (Below.heap_setCell w8 ⟨x, 1, none⟩ (.int .i64 (((eN (eN L0).2).1 : Nat) : Int)) q (Ne.symm HXQ.out)))
      have HB9 := hid (HB8.out.setCell (p := ⟨x, 1, none⟩) HXL.out (.int .i64 (((eN (eN L0).2).1 : Nat) : Int)))
      clear he8 ho8 hx8 HE7 HB7 HX7 HB8
      go_wp2_with fail
      generalize w8.setCell ⟨x, 1, none⟩ (.int .i64 (((eN (eN L0).2).1 : Nat) : Int)) = w9 at *
      clear c1 f1
      obtain ⟨V1, hV1⟩ : ∃ V, V = Value.int .i64 (((eN L0).1 : Nat) : Int) := ⟨_, rfl⟩
      obtain ⟨V2, hV2⟩ : ∃ V, V = Value.int .i64 (((eN (eN L0).2).1 : Nat) : Int) := ⟨_, rfl⟩
      rw [← hV1, ← hV2] at HX9
      obtain ⟨L3, hL3⟩ : ∃ L, L = (eN (eN L0).2).2 := ⟨_, rfl⟩
      rw [← hL3] at HE9
      have HLE : Hid (L3.length ≤ 1000) := by
        have a := eN_len L0
        have b' := eN_len (eN L0).2
        have c := mids_len 4 b
        have d : L0.length ≤ (mids 4 b).length := by rw [← HL0.out, List.length_drop]; omega
        show _ ≤ _
        rw [hL3]; omega
      have HSP : Hid (heard b = ⟨(((eN L0).1 : Nat) : Int), (((eN (eN L0).2).1 : Nat) : Int), (hLog L3).1, (hLog (hLog L3).2).1⟩) := by
        show _ = _
        rw [HHE.out, hL3, ← HL0.out]; rfl
      have HV1 := hid hV1
      have HV2 := hid hV2
      have hx9 := HX9.out
      have o1 : V1.oneCell' = true := by rw [hV1]; rfl
      have o2 : V2.oneCell' = true := by rw [hV2]; rfl
      have HON := hid (And.intro o1 o2)
      clear hL3 hV1 hV2 HHE o1 o2
      refine (heardLog_any HE9.out HLE.out).mono ?_
      rintro e wA ⟨aj, nj, cj, bdA, rfl, hnj, hrj, hgj, heA, hoA⟩
      have hxA := (hoA.block x (Array.getElem?_eq_some_iff.1 hx9).1 HXQ.out (by simp)).trans hx9
      have HBA := hid (HB9.out.trans (hoA.low1 HQ.out HB9.out.size))
      have HLA : Hid ((hLog L3).2.length ≤ 1000) := Nat.le_trans (hLog_len L3) HLE.out
      generalize hlj : (hLog L3).1.len = lj at *
      generalize hkj : (hLog L3).1.last = kj at *
      have hst := run_storeAt_row wA x 2 32 30 [V1, V2, .slice none 0 0, .int .i64 0, .int .u32 0, .slice none 0 0, .int .i64 0, .int .u32 0] [.slice aj nj cj, .int .i64 lj, .int .u32 (kj : Int)] hxA size30 (by simp) (by intro v hv; simp at hv; rcases hv with rfl | rfl | rfl <;> rfl)
      rw [show (splice [V1, V2, .slice none 0 0, .int .i64 0, .int .u32 0, .slice none 0 0, .int .i64 0, .int .u32 0] 2 [.slice aj nj cj, .int .i64 lj, .int .u32 (kj : Int)]).toArray = #[V1, V2, .slice aj nj cj, .int .i64 lj, .int .u32 (kj : Int), .slice none 0 0, .int .i64 0, .int .u32 0] from rfl] at hst
      have hbx : ∀ v, aj = some v → v.block ≠ x := fun v hv => by have := hgj v hv; have := (Array.getElem?_eq_some_iff.1 hx9).1; omega
      have hbq : ∀ v, aj = some v → v.block ≠ q := fun v hv => by have := hgj v hv; have := HE9.out.lt; omega
      have HXB := hid (setRow_heap wA x _ #[V1, V2, .slice aj nj cj, .int .i64 lj, .int .u32 (kj : Int), .slice none 0 0, .int .i64 0, .int .u32 0] 32 (0, 0) hxA)
      have HEB := hid (heA.kept (setRow_other wA x q #[V1, V2, .slice aj nj cj, .int .i64 lj, .int .u32 (kj : Int), .slice none 0 0, .int .i64 0, .int .u32 0] (Ne.symm HXQ.out)))
      have HBB := hid (below_setRow HBA.out HXL.out #[V1, V2, .slice aj nj cj, .int .i64 lj, .int .u32 (kj : Int), .slice none 0 0, .int .i64 0, .int .u32 0])
      have HRJ := hid (hrj.setRow (cs := #[V1, V2, .slice aj nj cj, .int .i64 lj, .int .u32 (kj : Int), .slice none 0 0, .int .i64 0, .int .u32 0]) hbx)
      have HJW : Hid (∀ v, aj = some v → w.heap.size < v.block) := fun v hv => by have := hgj v hv; have := HB9.out.size; have := HS1.out; omega
      have HJ := hid (And.intro hbq (And.intro hbx hnj))
      have HST := hid hst
      have HLK := hid (And.intro hlj hkj)
      clear hnj hrj hgj heA hoA hxA hst hbx hbq HE9 HB9 HX9 hx9 HBA hlj hkj
      have tok : True := trivial
      go_wp2_with (have _t := tok; refine step_store 30 rfl _ _ rfl _ HST.out ?_; clear tok)
      generalize wA.setRow x #[V1, V2, .slice aj nj cj, .int .i64 lj, .int .u32 (kj : Int), .slice none 0 0, .int .i64 0, .int .u32 0] = wB at *
      have hxB := HXB.out
      refine (heardLog_any HEB.out HLA.out).mono ?_
      rintro e wC ⟨ac, nc, cc, bdC, rfl, hnc, hrc, hgc, heC, hoC⟩
      have hxC := (hoC.block x (Array.getElem?_eq_some_iff.1 hxB).1 HXQ.out (by simp)).trans hxB
      have HBC := hid (HBB.out.trans (hoC.low1 HQ.out HBB.out.size))
      have HRJC := hid (HRJ.out.eye hoC HJ.out.1)
      generalize hlc : (hLog (hLog L3).2).1.len = lc at *
      generalize hkc : (hLog (hLog L3).2).1.last = kc at *
      have hst := run_storeAt_row wC x 5 32 30 [V1, V2, .slice aj nj cj, .int .i64 lj, .int .u32 (kj : Int), .slice none 0 0, .int .i64 0, .int .u32 0] [.slice ac nc cc, .int .i64 lc, .int .u32 (kc : Int)] hxC size30 (by simp) (by intro v hv; simp at hv; rcases hv with rfl | rfl | rfl <;> rfl)
      rw [show (splice [V1, V2, .slice aj nj cj, .int .i64 lj, .int .u32 (kj : Int), .slice none 0 0, .int .i64 0, .int .u32 0] 5 [.slice ac nc cc, .int .i64 lc, .int .u32 (kc : Int)]).toArray = #[V1, V2, .slice aj nj cj, .int .i64 lj, .int .u32 (kj : Int), .slice ac nc cc, .int .i64 lc, .int .u32 (kc : Int)] from rfl] at hst
      have hcx : ∀ v, ac = some v → v.block ≠ x ∧ w1.heap.size ≤ v.block := fun v hv => by have := hgc v hv; have := (Array.getElem?_eq_some_iff.1 hxB).1; have := HBB.out.size; omega
      have hxD := setRow_heap wC x _ #[V1, V2, .slice aj nj cj, .int .i64 lj, .int .u32 (kj : Int), .slice ac nc cc, .int .i64 lc, .int .u32 (kc : Int)] 32 (0, 0) hxC
      have HBD := hid (below_setRow HBC.out HXL.out #[V1, V2, .slice aj nj cj, .int .i64 lj, .int .u32 (kj : Int), .slice ac nc cc, .int .i64 lc, .int .u32 (kc : Int)])
      have HRJD := hid (HRJC.out.setRow (cs := #[V1, V2, .slice aj nj cj, .int .i64 lj, .int .u32 (kj : Int), .slice ac nc cc, .int .i64 lc, .int .u32 (kc : Int)]) HJ.out.2.1)
      have HRCD := hid (hrc.setRow (cs := #[V1, V2, .slice aj nj cj, .int .i64 lj, .int .u32 (kj : Int), .slice ac nc cc, .int .i64 lc, .int .u32 (kc : Int)]) (fun v hv => (hcx v hv).1))
      have HCX : Hid (∀ v, ac = some v → w.heap.size < v.block) := fun v hv => by have := (hcx v hv).2; have := HS1.out; omega
      have HST2 := hid hst
      have HLC := hid (And.intro hlc (And.intro hkc hnc))
      have hyD := (HBD.out.block w.heap.size (by have := HS1.out; omega)).trans HY1.out
      have hst3 := run_storeAt_row (wC.setRow x #[V1, V2, .slice aj nj cj, .int .i64 lj, .int .u32 (kj : Int), .slice ac nc cc, .int .i64 lc, .int .u32 (kc : Int)]) w.heap.size 0 32 32 [.int .i64 0, .int .i64 0, .slice none 0 0, .int .i64 0, .int .u32 0, .slice none 0 0, .int .i64 0, .int .u32 0] [V1, V2, .slice aj nj cj, .int .i64 lj, .int .u32 (kj : Int), .slice ac nc cc, .int .i64 lc, .int .u32 (kc : Int)] hyD size32 (by simp) (by intro v hv; simp at hv; rcases hv with rfl | rfl | rfl | rfl | rfl | rfl | rfl | rfl <;> first | rfl | exact HON.out.1 | exact HON.out.2)
      rw [splice_all _ _ (by simp)] at hst3
      obtain ⟨d0, d1, d2, d3, d4, d5, d6, d7⟩ := cells8 hxD
      have HST3 := hid hst3
      have HYE := hid (setRow_heap (wC.setRow x #[V1, V2, .slice aj nj cj, .int .i64 lj, .int .u32 (kj : Int), .slice ac nc cc, .int .i64 lc, .int .u32 (kc : Int)]) w.heap.size _ #[V1, V2, .slice aj nj cj, .int .i64 lj, .int .u32 (kj : Int), .slice ac nc cc, .int .i64 lc, .int .u32 (kc : Int)] 32 (0, 0) hyD)
      clear hcx hnc hrc hgc heC hoC hxC hst hxB HEB HBB HXB hxD hyD hst3 hlc hkc HBC HRJC HRJ
      have tok : True := trivial
      have tok2 : True := trivial
      go_wp2_with (first | (have _t := tok; refine step_store 30 rfl _ _ rfl _ HST2.out ?_; clear tok) | (have _t := tok2; refine step_store 32 rfl _ _ rfl _ HST3.out ?_; clear tok2))
      refine bodyPost_ret (v := .agg #[V1, V2, .slice aj nj cj, .int .i64 lj, .int .u32 (kj : Int), .slice ac nc cc, .int .i64 lc, .int .u32 (kc : Int)]) (results_cell_row (ty := 32) (p := 2) Try.results30 _ _ w.heap.size 32 _ (0, 0) _ rfl HYE.out Try.underlying32 rfl size32) rfl ?_
      refine ⟨aj, nj, cj, ac, nc, cc, ?_, ?_, ?_, ?_, ?_, ?_, HJW.out, HCX.out⟩
      · rw [HSP.out, HV1.out, HV2.out]
        dsimp only
        rw [HLK.out.1, HLK.out.2, HLC.out.1, HLC.out.2.1]
      · rw [HSP.out]; exact HJ.out.2.2
      · rw [HSP.out]; exact HLC.out.2.2
      · rw [HSP.out]; exact HRJD.out.setRow (fun v hv => by have := HJW.out v hv; omega)
      · rw [HSP.out]; exact HRCD.out.setRow (fun v hv => by have := HCX.out v hv; omega)
      · exact below_setRow (HB1.out.trans (HBD.out.mono (by have := HS1.out; omega))) (Nat.le_refl _) _
    · obtain ⟨k, rfl⟩ : ∃ k, gk = k + 1 := ⟨gk - 1, by omega⟩
      have hge : (64 : Int) ≤ (n : Int) := by omega
      have hsl : ∀ w, (Instr.slice 35 (.slice a n cp) (some (.int .i64 4)) (some (.int .i64 60)) none).run Try.prog w = .ok (.slice (fromA a 4 cp) 56 (cp - 4)) w := fun w => slice_mid w a n cp 4 60 (by omega) (by omega)
      have hsf : ∀ w, (Instr.slice 35 (.slice a n cp) (some (.int .i64 64)) none none).run Try.prog w = .ok (.slice (fromA a 64 cp) (n - 64) (cp - 64)) w := fun w => slice_from w a n cp 64 (by omega)
      have HRD := hid (row_drop hrow 64 cp (by omega))
      have hr4 := row_take (row_drop (hrow.below hb) 4 cp (by omega)) 56
      have HR4 := hid hr4
      generalize fromA a 64 cp = a6 at *
      generalize fromA a 4 cp = a4 at *
      have HT56 : Hid (((l.drop 4).take 56).length = 56) := by show _ = _; rw [List.length_take, List.length_drop]; omega
      have HS1' : Hid (pre.length + ((l.drop 4).take 56).length ≤ 1000000000) := by show _ ≤ _; rw [HT56.out]; omega
      have hne56 : (l.drop 4).take 56 ≠ [] := fun e => by have h := HT56.out; rw [e] at h; simp at h
      have HT2 : Hid ((pre ++ (l.drop 4).take 56) ++ mids k (l.drop 64) = mids 4 b) := by
        have e := ht.out
        rw [mids] at e
        rw [← e]
        show _ = _
        simp only [List.append_assoc]
      have HNU := hid (And.intro hn (And.intro hcp (And.intro hk4 (And.intro hpl hl))))
      have HN56 := hid hne56
      have HLB := hid (fun x (hx : x ∈ (l.drop 4).take 56) => hrow.1 x (List.mem_of_mem_drop (List.mem_of_mem_take hx)))
      clear hl hrow hown hb ht hn hcp hk4 hpl hne56 hr4 hpx
      have tok1 : True := trivial
      go_wp2_with (at_builtin; have _t := tok1; refine wpList_append_row _ rfl _ _ rfl w1.heap.size u3 pre rfl HOWN.out _ ((l.drop 4).take 56) 56 _ rfl HT56.out HR4.out HN56.out HS1'.out HBr.out.size ?_; intro g1 k1 c1 x1 hk1 ho1 hg1 _; have HX1 := own_app0 HBr.out HOWN.out hg1 ho1; have HK1 := hid hk1; clear tok1 ho1 hg1 hk1)
      go_roundg k
      case measure => omega
      case rel =>
        have hh := HNU.out
        refine ⟨a6, l.drop 64, n - 64, cp - 64, pre ++ (l.drop 4).take 56, rfl, by rw [List.length_drop]; omega, by omega, by omega, by omega, HRD.out, ?_, HX1.out.2, HT2, ?_, ?_⟩
        · rw [HK1.out]; exact HX1.out.1
        · rw [List.length_append, HT56.out]; omega
        · intro x hx
          rcases List.mem_append.1 hx with h | h
          · exact HPX.out x h
          · exact HLB.out x h
end Go.Proofs.Ytmfmhlhpleahpaa
