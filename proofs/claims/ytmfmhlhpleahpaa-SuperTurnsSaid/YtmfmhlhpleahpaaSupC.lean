/- What the program's told answers: a slot's bytes, in a row of its own. Conditions: the numbers are no greater than 2^31 - 1, segments lie from 0 to below 256, lists are no longer than a thousand. -/
import Derived.Test.YtmfmhlhpleahpaaSupB
namespace Go.Proofs.Ytmfmhlhpleahpaa
open Go.RowKit Pen
open Crc (four nx)
/-- Blocks of any other kind than a Pen and a row of bytes stay. -/
def KeepT (w w' : World) : Prop := ∀ (k : Nat) (cs : Array Value) (t : TypeId) (fr : Nat × Nat), w.heap[k]? = some (.cells cs t fr) → t ≠ 5 → t ≠ 87 → w'.heap[k]? = some (.cells cs t fr)
theorem PenAt.type_ne {base : Nat} {w : World} {q k : Nat} {o : Option Nat} {l : List Nat} {cs : Array Value} {t : TypeId} {fr : Nat × Nat} (h : PenAt base w q o l) (hk : w.heap[k]? = some (.cells cs t fr)) (h5 : t ≠ 5) (h87 : t ≠ 87) : k ≠ q ∧ some k ≠ o := by
  obtain ⟨v, hv, hown, rfl, _⟩ := h
  constructor
  · rintro rfl
    have : w.heap[k]? = _ := hv
    rw [hk] at this
    simp at this
    exact h87 this.2.1
  · rcases hown.2 with ⟨rfl, _⟩ | ⟨g, cap, cur, rfl, _, hg, _⟩
    · simp [Value.ownBlock]
    · simp only [Value.ownBlock]
      intro e
      simp at e
      subst e
      rw [hk] at hg
      simp at hg
      exact h5 hg.2.1
theorem keepT_of {base : Nat} {w w' : World} {q : Nat} {o : Option Nat} {l : List Nat} (h : PenAt base w q o l) (ho : Only q o w w') : KeepT w w' := fun k _ _ _ hk h5 h87 =>
  (ho.block k (Array.getElem?_eq_some_iff.1 hk).1 (h.type_ne hk h5 h87).1 (h.type_ne hk h5 h87).2).trans hk
theorem keepT_below {w w' : World} (hb : Below w.heap.size w w') : KeepT w w' := fun k _ _ _ hk _ _ => (hb.block k (Array.getElem?_eq_some_iff.1 hk).1).trans hk
/-- A row of bytes besides the Pen's own stays, and is none of its own. -/
def Beside (z : Nat) (cs : Array Value) (w : World) (q : Nat) (o : Option Nat) : Prop := w.heap[z]? = some (.cells cs 5 (0, 0)) ∧ z ≠ q ∧ some z ≠ o
theorem Beside.step {z : Nat} {cs : Array Value} {w w' : World} {q : Nat} {o o' : Option Nat} (h : Beside z cs w q o) (ho : Only q o w w') (hw : Where w o o') : Beside z cs w' q o' := by
  obtain ⟨h1, h2, h3⟩ := h
  have hz := (Array.getElem?_eq_some_iff.1 h1).1
  refine ⟨(ho.block z hz h2 h3).trans h1, h2, ?_⟩
  rcases hw with rfl | ⟨g, rfl, hg⟩
  · exact h3
  · intro e; simp at e; omega
theorem wb {base : Nat} {w : World} {q : Nat} {o : Option Nat} {l : List Nat} (b : Nat) (hb : b < 256) (hl : l.length ≤ 900000000) (h : PenAt base w q o l) :
    Calls Try.prog 42 #[.pointer (some ⟨q, 0, none⟩), .int .u8 (b : Int)] w fun e w' => e = .returned (.tuple #[]) ∧ ∃ o', PenAt base w' q o' (l ++ [b]) ∧ Below base w w' ∧ KeepT w w' ∧ ∀ z cs, Beside z cs w q o → Beside z cs w' q o' := by
  refine (wbyte_any b hb hl h).mono ?_
  rintro e w' ⟨rfl, o', h1, h2, h3⟩
  exact ⟨rfl, o', h1, h2.pen h, keepT_of h h2, fun z cs hz => hz.step h2 h3⟩
theorem wn {base : Nat} {w : World} {q : Nat} {o : Option Nat} {l : List Nat} (z : Int) (hz : z < 9223372036854775808) (hl : l.length ≤ 800000000) (h : PenAt base w q o l) :
    Calls Try.prog 43 #[.pointer (some ⟨q, 0, none⟩), .int .i64 z] w fun e w' => e = .returned (.tuple #[]) ∧ ∃ o', PenAt base w' q o' (l ++ num z.toNat) ∧ Below base w w' ∧ KeepT w w' ∧ ∀ z cs, Beside z cs w q o → Beside z cs w' q o' := by
  refine (wnum_any z hz hl h).mono ?_
  rintro e w' ⟨rfl, o', h1, h2, h3⟩
  exact ⟨rfl, o', h1, h2.pen h, keepT_of h h2, fun z cs hz => hz.step h2 h3⟩
def encs (ls : List Lg) : List Nat := (ls.map Lg.enc).flatten
theorem num_le10 {z : Int} (h : z < 9223372036854775808) : (num z.toNat).length ≤ 10 := num_len10 _ (by omega)
theorem told_encs (s : Sp) : s.told = [84] ++ ([82] ++ (num s.number.toNat ++ (num s.boot.toNat ++ encs [s.j, s.c]))) := by simp [Sp.told, encs]
set_option maxRecDepth 10000 in
set_option maxHeartbeats 4000000 in
theorem told_any (w : World) (nb bt : Int) (aj : Option Addr) (nj cj : Nat) (lj : Int) (kj : Nat) (ac : Option Addr) (nc cc : Nat) (lc : Int) (kc : Nat) (sj sc : List Int)
    (hj : IRow w aj sj) (hnj : sj.length = nj) (hmj : nj ≤ 1000) (hc : IRow w ac sc) (hnc : sc.length = nc) (hmc : nc ≤ 1000) (hnb : nb ≤ 2147483647) (hbt : bt ≤ 2147483647) (hlj : lj ≤ 2147483647) (hlc : lc ≤ 2147483647)
    (hkj : kj < 4294967296) (hkc : kc < 4294967296) (hsj : ∀ x ∈ sj, 0 ≤ x ∧ x < 256) (hsc : ∀ x ∈ sc, 0 ≤ x ∧ x < 256) (T : List Nat) (hT : Sp.told ⟨nb, bt, ⟨sj, lj, kj⟩, ⟨sc, lc, kc⟩⟩ = T) :
    Calls Try.prog 27 #[.agg #[.int .i64 nb, .int .i64 bt, .slice aj nj cj, .int .i64 lj, .int .u32 (kj : Int), .slice ac nc cc, .int .i64 lc, .int .u32 (kc : Int)]] w
      fun e w' => ∃ g cap', e = .returned (.slice (some ⟨g, 0, none⟩) T.length cap') ∧ Row w' (some ⟨g, 0, none⟩) T ∧ Below w.heap.size w w' ∧ T.length ≤ cap' ∧ cap' ≤ maxLen := by
  have HT : Hid ([84] ++ ([82] ++ (num nb.toNat ++ (num bt.toNat ++ encs [⟨sj, lj, kj⟩, ⟨sc, lc, kc⟩]))) = T) := by rw [← hT, told_encs]; rfl
  have HJ := hid (And.intro hj (And.intro hnj (And.intro hmj (And.intro hlj (And.intro hkj hsj)))))
  have HC := hid (And.intro hc (And.intro hnc (And.intro hmc (And.intro hlc (And.intro hkc hsc)))))
  have HNB := hid (And.intro hnb hbt)
  clear hj hnj hmj hlj hkj hsj hc hnc hmc hlc hkc hsc hnb hbt hT
  have h0 := PenAt.new w.heap.size (w.alloc (.cells #[.int .i64 nb, .int .i64 bt, .slice aj nj cj, .int .i64 lj, .int .u32 (kj : Int), .slice ac nc cc, .int .i64 lc, .int .u32 (kc : Int)] 32)) (by simp)
  have hb0 : Below w.heap.size w ((w.alloc (.cells #[.int .i64 nb, .int .i64 bt, .slice aj nj cj, .int .i64 lj, .int .u32 (kj : Int), .slice ac nc cc, .int .i64 lc, .int .u32 (kc : Int)] 32)).alloc (.cells #[.slice none 0 0] 87)) := ((Below.refl _ _).alloc (Nat.le_refl _) _).alloc (by simp) _
  have hx0 : ((w.alloc (.cells #[.int .i64 nb, .int .i64 bt, .slice aj nj cj, .int .i64 lj, .int .u32 (kj : Int), .slice ac nc cc, .int .i64 lc, .int .u32 (kc : Int)] 32)).alloc (.cells #[.slice none 0 0] 87)).heap[w.heap.size]? = some (.cells #[.int .i64 nb, .int .i64 bt, .slice aj nj cj, .int .i64 lj, .int .u32 (kj : Int), .slice ac nc cc, .int .i64 lc, .int .u32 (kc : Int)] 32 (0, 0)) := heap_alloc2_old _ _ _
  rw [show (w.alloc (.cells #[.int .i64 nb, .int .i64 bt, .slice aj nj cj, .int .i64 lj, .int .u32 (kj : Int), .slice ac nc cc, .int .i64 lc, .int .u32 (kc : Int)] 32)).heap.size = w.heap.size + 1 by simp] at h0
  have H0 := hid h0
  have HB0 := hid hb0
  have HX0 := hid hx0
  clear h0 hb0 hx0
  go_enter Try.func27, Try.ntmps27
  go_wp2_with fail
  generalize (w.alloc (.cells #[.int .i64 nb, .int .i64 bt, .slice aj nj cj, .int .i64 lj, .int .u32 (kj : Int), .slice ac nc cc, .int .i64 lc, .int .u32 (kc : Int)] 32)).alloc (.cells #[.slice none 0 0] 87) = w0 at *
  generalize hM : w.heap.size = m at *
  have HM := hid hM
  clear hM
  obtain ⟨q, hq⟩ : ∃ q, m + 1 = q := ⟨_, rfl⟩
  rw [hq] at H0 ⊢
  clear hq
  refine (wb 84 (by decide) (by simp) H0.out).mono ?_
  rintro e w1 ⟨rfl, o1, h1, b1, k1, -⟩
  have H1 := hid h1
  have HB1 := hid (HB0.out.trans b1)
  have HX1 := hid (k1 _ _ _ _ HX0.out (by decide) (by decide))
  clear h1 b1 k1 H0 HB0 HX0
  go_wp2_with fail
  refine (wb 82 (by decide) (by simp) H1.out).mono ?_
  rintro e w2 ⟨rfl, o2, h2, b2, k2, -⟩
  have H2 := hid h2
  have HB2 := hid (HB1.out.trans b2)
  have hx2 := k2 _ _ _ _ HX1.out (by decide) (by decide)
  have HX2 := hid hx2
  obtain ⟨d0, d1, d2, d3, d4, d5, d6, d7⟩ := cells8 hx2
  clear h2 b2 k2 H1 HB1 HX1 hx2
  go_wp2_with fail
  refine (wn nb (by have := HNB.out; omega) (by simp) H2.out).mono ?_
  rintro e w3 ⟨rfl, o3, h3, b3, k3, -⟩
  have H3 := hid h3
  have HB3 := hid (HB2.out.trans b3)
  have hx3 := k3 _ _ _ _ HX2.out (by decide) (by decide)
  have HX3 := hid hx3
  clear d0 d1 d2 d3 d4 d5 d6 d7
  obtain ⟨d0, d1, d2, d3, d4, d5, d6, d7⟩ := cells8 hx3
  clear h3 b3 k3 H2 HB2 HX2 hx3
  go_wp2_with fail
  refine (wn bt (by have := HNB.out; omega) (by have := num_le10 (z := nb) (by have := HNB.out; omega); simp; omega) H3.out).mono ?_
  rintro e w4 ⟨rfl, o4, h4, b4, k4, -⟩
  have H4 := hid h4
  have HB4 := hid (HB3.out.trans b4)
  have hx4 := k4 _ _ _ _ HX3.out (by decide) (by decide)
  clear d0 d1 d2 d3 d4 d5 d6 d7
  obtain ⟨d0, d1, d2, d3, d4, d5, d6, d7⟩ := cells8 hx4
  clear h4 b4 k4 H3 HB3 HX3 hx4
  go_wp2_with fail
  have hb5 : Below w4.heap.size w4 (w4.alloc (.cells #[.slice aj nj cj, .int .i64 lj, .int .u32 (kj : Int), .slice ac nc cc, .int .i64 lc, .int .u32 (kc : Int)] 30)) := (Below.refl _ _).alloc (Nat.le_refl _) _
  have H5 := hid (H4.out.below hb5)
  have HB5 := hid (HB4.out.trans (hb5.mono (HM.out ▸ HB4.out.size)))
  have HY5 : Hid ((w4.alloc (.cells #[.slice aj nj cj, .int .i64 lj, .int .u32 (kj : Int), .slice ac nc cc, .int .i64 lc, .int .u32 (kc : Int)] 30)).heap[w4.heap.size]? = some (.cells #[.slice aj nj cj, .int .i64 lj, .int .u32 (kj : Int), .slice ac nc cc, .int .i64 lc, .int .u32 (kc : Int)] 30 (0, 0))) := heap_alloc_new _ _
  have HT5 : Hid (((([] ++ [84]) ++ [82]) ++ num nb.toNat ++ num bt.toNat) ++ encs [⟨sj, lj, kj⟩, ⟨sc, lc, kc⟩] = T) := by
    show _ = _
    rw [← HT.out]; simp
  have HLE : Hid ((((([] : List Nat) ++ [84]) ++ [82]) ++ num nb.toNat ++ num bt.toNat).length ≤ 100) := by
    have a := num_le10 (z := nb) (by have := HNB.out; omega)
    have b := num_le10 (z := bt) (by have := HNB.out; omega)
    show _ ≤ _
    simp; omega
  generalize ((([] : List Nat) ++ [84]) ++ [82]) ++ num nb.toNat ++ num bt.toNat = l0 at *
  generalize hY : w4.heap.size = y at *
  clear hb5 hY H4 HB4 d0 d1 d2 d3 d4 d5 d6 d7
  generalize w4.alloc (.cells #[.slice aj nj cj, .int .i64 lj, .int .u32 (kj : Int), .slice ac nc cc, .int .i64 lc, .int .u32 (kc : Int)] 30) = w5 at *
  go_loopg [5, 7, 9, 24, 35, 50] 2 (fun t v5 v7 v9 v24 v35 v50 wr => ∃ (i : Nat) (o : Option Nat) (l : List Nat), i + t = 2 ∧ v24 = .int .i64 (i : Int) ∧ Below m w wr ∧ wr.heap[y]? = some (.cells #[.slice aj nj cj, .int .i64 lj, .int .u32 (kj : Int), .slice ac nc cc, .int .i64 lc, .int .u32 (kc : Int)] 30 (0, 0)) ∧ PenAt m wr q o l ∧ l.length ≤ 100 + 2000 * i ∧ Hid (l ++ encs ([⟨sj, lj, kj⟩, ⟨sc, lc, kc⟩].drop i) = T))
  case atStart => exact ⟨0, o4, l0, rfl, rfl, HB5.out, HY5.out, H5.out, by have := HLE.out; omega, HT5⟩
  case round =>
    obtain ⟨i, o, l0', hi, rfl, hb, hy, hp, hle, ht⟩ := hrel
    have HBi := hid hb
    have HYi := hid hy
    have HPi := hid hp
    have HLi := hid hle
    clear HB5 HY5 H5 HLE HT5
    by_cases h2 : i < 2
    · obtain ⟨g1, hg1⟩ : ∃ g1, gk = g1 + 1 := ⟨gk - 1, by omega⟩
      have HG1 := hid (And.intro hg1 hi)
      obtain ⟨a, n, c, l, la, sg, e0, e1, e2, hrow, hlen, hfew, hmax, hla, hsg, hgo⟩ : ∃ a n c, ∃ l : Int, ∃ la : Nat, ∃ sg : List Int, wr.cell? ⟨y, i * 3, none⟩ = some (.slice a n c) ∧ wr.cell? ⟨y, i * 3 + 1, none⟩ = some (.int .i64 l) ∧ wr.cell? ⟨y, i * 3 + 2, none⟩ = some (.int .u32 (la : Int)) ∧ IRow w a sg ∧ sg.length = n ∧ n ≤ 1000 ∧ l ≤ 2147483647 ∧ la < 4294967296 ∧ (∀ x ∈ sg, 0 ≤ x ∧ x < 256) ∧ l0' ++ (num n ++ (sg.map Int.toNat ++ (num l.toNat ++ (four la ++ encs ([⟨sj, lj, kj⟩, ⟨sc, lc, kc⟩].drop (i + 1)))))) = T := by
        have hc := fun o => cell_of_row wr y o _ 30 (0, 0) hy
        rcases (by omega : i = 0 ∨ i = 1) with rfl | rfl
        · exact ⟨aj, nj, cj, lj, kj, sj, by rw [hc]; rfl, by rw [hc]; rfl, by rw [hc]; rfl, HJ.out.1, HJ.out.2.1, HJ.out.2.2.1, HJ.out.2.2.2.1, HJ.out.2.2.2.2.1, HJ.out.2.2.2.2.2, by rw [← ht.out]; simp [encs, Lg.enc, HJ.out.2.1]⟩
        · exact ⟨ac, nc, cc, lc, kc, sc, by rw [hc]; rfl, by rw [hc]; rfl, by rw [hc]; rfl, HC.out.1, HC.out.2.1, HC.out.2.2.1, HC.out.2.2.2.1, HC.out.2.2.2.2.1, HC.out.2.2.2.2.2, by rw [← ht.out]; simp [encs, Lg.enc, HC.out.2.1]⟩
      have HROW := hid hrow
      have HLEN := hid hlen
      have HSG := hid hsg
      have HLA := hid (And.intro hla hmax)
      have HGO := hid hgo
      have hii : (i : Int) < 2 := by omega
      have hn9 : (n : Int) ≤ 1000 := by omega
      generalize hrest : encs ([⟨sj, lj, kj⟩, ⟨sc, lc, kc⟩].drop (i + 1)) = rest at *
      have HRE := hid hrest
      clear hrest
      have HBX : Hid (Below wr.heap.size wr (wr.alloc (.cells #[.slice a n c, .int .i64 l, .int .u32 (la : Int)] 30))) := (Below.refl _ _).alloc (Nat.le_refl _) _
      have HXX : Hid ((wr.alloc (.cells #[.slice a n c, .int .i64 l, .int .u32 (la : Int)] 30)).heap[wr.heap.size]? = some (.cells #[.slice a n c, .int .i64 l, .int .u32 (la : Int)] 30 (0, 0))) := heap_alloc_new _ _
      clear hi hb hy hp hle ht hg1 hrow hlen hsg hla hmax hgo
      go_wp2_with fail
      have HB6 := hid (HBi.out.trans (HBX.out.mono (HM.out ▸ HBi.out.size)))
      have HP6 := hid (HPi.out.below HBX.out)
      have HY6 := hid (keepT_below HBX.out _ _ _ _ HYi.out (by decide) (by decide))
      generalize wr.alloc (.cells #[.slice a n c, .int .i64 l, .int .u32 (la : Int)] 30) = w6 at *
      generalize wr.heap.size = x at *
      clear e0 e1 e2 HBX HBi HPi HYi
      refine (wn (n : Int) (by omega) (by have := HLi.out; omega) HP6.out).mono ?_
      rintro e w7 ⟨rfl, o7, h7, b7, k7, -⟩
      have H7 := hid h7
      have HB7 := hid (HB6.out.trans b7)
      have HY7 := hid (k7 _ _ _ _ HY6.out (by decide) (by decide))
      have hx7 := k7 _ _ _ _ HXX.out (by decide) (by decide)
      have HX7 := hid hx7
      have c0 : w7.cell? ⟨x, 0, none⟩ = some (.slice a n c) := by rw [cell_of_row w7 x 0 _ 30 (0, 0) hx7]; rfl
      clear h7 b7 k7 hx7 HB6 HP6 HY6 HXX
      rw [Int.toNat_natCast] at H7
      have HL7 : Hid ((l0' ++ num n).length ≤ 120 + 2000 * i) := by
        have a := num_le10 (z := (n : Int)) (by omega)
        rw [Int.toNat_natCast] at a
        have := HLi.out
        show _ ≤ _
        simp; omega
      go_wp2_with fail
      go_loopg [7, 35] n (fun t v7 v35 w2 => ∃ (j : Nat) (o : Option Nat) (l2 : List Nat), j + t = n ∧ v35 = .int .i64 (j : Int) ∧ Below m w w2 ∧ w2.heap[y]? = some (.cells #[.slice aj nj cj, .int .i64 lj, .int .u32 (kj : Int), .slice ac nc cc, .int .i64 lc, .int .u32 (kc : Int)] 30 (0, 0)) ∧ w2.heap[x]? = some (.cells #[.slice a n c, .int .i64 l, .int .u32 (la : Int)] 30 (0, 0)) ∧ PenAt m w2 q o l2 ∧ l2.length ≤ 120 + 2000 * i + j ∧ Hid (l2 ++ ((sg.drop j).map Int.toNat ++ (num l.toNat ++ (four la ++ rest))) = T))
      case atStart =>
        refine ⟨0, o7, l0' ++ num n, by omega, rfl, HB7.out, HY7.out, HX7.out, H7.out, HL7.out, ?_⟩
        show _ = _
        rw [← HGO.out]; simp
      case round =>
        obtain ⟨j, o, l2, hj, rfl, hb2, hy2, hx2, hp2, hl2, ht2⟩ := hrel
        have HB2 := hid hb2
        have HY2 := hid hy2
        have HX2 := hid hx2
        have HP2 := hid hp2
        have HL2 := hid hl2
        have HJN := hid hj
        clear HB7 HY7 HX7 H7 HL7 c0
        by_cases hjn : j < n
        · have hji : (j : Int) < (n : Int) := by omega
          have hjl : j < sg.length := by rw [HLEN.out]; exact hjn
          obtain ⟨p0, o0, rfl, hp0, hcell⟩ : ∃ b off, a = some ⟨b, off, none⟩ ∧ b < w.heap.size ∧ ∀ i, i < sg.length → w.cell? ⟨b, off + i, none⟩ = some (.int .i64 (sg.getD i 0)) := by
            rcases HROW.out with h | h
            · rw [h] at hjl; simp at hjl
            · exact h
          have hcj : wr.cell? ⟨p0, o0 + j, none⟩ = some (.int .i64 (sg.getD j 0)) := (hb2.cell (p := ⟨p0, o0 + j, none⟩) (by have := HM.out; show p0 < m; omega)).trans (hcell j hjl)
          have hdr : sg.drop j = sg.getD j 0 :: sg.drop (j + 1) := by
            rw [List.drop_eq_getElem_cons hjl, List.getD_eq_getElem?_getD, List.getElem?_eq_getElem hjl]; rfl
          have hXr := HSG.out (sg.getD j 0) (by rw [List.getD_eq_getElem?_getD, List.getElem?_eq_getElem hjl]; exact List.getElem_mem hjl)
          rw [hdr] at ht2
          generalize sg.getD j 0 = X at *
          obtain ⟨z, rfl⟩ : ∃ z : Nat, X = (z : Int) := ⟨X.toNat, by omega⟩
          have hz : z < 256 := by omega
          have hzi : (z : Int) % 256 = (z : Int) := by omega
          have HT2 : Hid ((l2 ++ [z]) ++ ((sg.drop (j + 1)).map Int.toNat ++ (num l.toNat ++ (four la ++ rest))) = T) := by
            show _ = _
            rw [← ht2.out]; simp
          have HZ := hid hz
          clear ht2 hdr hcell hp0 hb2 hy2 hx2 hp2 hl2 hj hXr hz
          go_wp2_with fail
          refine (wb z HZ.out (by have := HL2.out; omega) HP2.out).mono ?_
          rintro e w8 ⟨rfl, o8, h8, b8, k8, -⟩
          have H8 := hid h8
          have HB8 := hid (HB2.out.trans b8)
          have HY8 := hid (k8 _ _ _ _ HY2.out (by decide) (by decide))
          have HX8 := hid (k8 _ _ _ _ HX2.out (by decide) (by decide))
          clear h8 b8 k8 HB2 HY2 HX2 HP2
          go_wp2_with fail
          go_roundg (gk - 1)
          case measure => have := HJN.out; omega
          case rel => exact ⟨j + 1, o8, l2 ++ [z], by have := HJN.out; omega, by go_num, HB8.out, HY8.out, HX8.out, H8.out, by have := HL2.out; simp; omega, HT2⟩
        · have hji : ¬ (j : Int) < (n : Int) := by omega
          have c1 : wr.cell? ⟨x, 1, none⟩ = some (.int .i64 l) := by rw [cell_of_row wr x 1 _ 30 (0, 0) hx2]; rfl
          have HT3 : Hid (l2 ++ (num l.toNat ++ (four la ++ rest)) = T) := by
            have e := ht2.out
            rw [List.drop_eq_nil_of_le (by rw [HLEN.out]; omega)] at e
            exact e
          clear ht2 hb2 hy2 hx2 hp2 hl2 hj
          go_wp2_with fail
          refine (wn l (by have := HLA.out.2; omega) (by have := HL2.out; have := HJN.out; omega) HP2.out).mono ?_
          rintro e w9 ⟨rfl, o9, h9, b9, k9, -⟩
          have H9 := hid h9
          have HB9 := hid (HB2.out.trans b9)
          have HY9 := hid (k9 _ _ _ _ HY2.out (by decide) (by decide))
          have hx9 := k9 _ _ _ _ HX2.out (by decide) (by decide)
          have c2 : w9.cell? ⟨x, 2, none⟩ = some (.int .u32 (la : Int)) := by rw [cell_of_row w9 x 2 _ 30 (0, 0) hx9]; rfl
          have HL9 : Hid ((l2 ++ num l.toNat).length ≤ 140 + 2000 * i + 1000) := by
            have a := num_le10 (z := l) (by have := HLA.out.2; omega)
            have := HL2.out
            have := HJN.out
            show _ ≤ _
            simp; omega
          have HT9 : Hid ((l2 ++ num l.toNat) ++ (four la ++ rest) = T) := by
            show _ = _
            rw [← HT3.out]; simp
          clear h9 b9 k9 HB2 HY2 HX2 HP2 c1 hx9 HT3 HL2
          generalize l2 ++ num l.toNat = l3 at *
          go_wp2_with fail
          refine (Crc.bytes_any la HLA.out.1 w9).mono ?_
          rintro e wA ⟨rfl, hwA⟩
          have hbA : Below w9.heap.size w9 wA := by rw [hwA]; exact (Below.refl _ _).alloc (Nat.le_refl _) _
          have HBA := hid (HB9.out.trans (hbA.mono (HM.out ▸ HB9.out.size)))
          have HYA := hid (keepT_below hbA _ _ _ _ HY9.out (by decide) (by decide))
          have HPA := hid (H9.out.below hbA)
          have HZA : Hid (Beside w9.heap.size (row8 (four la)) wA q o9) := by
            refine ⟨by rw [hwA]; exact heap_alloc_new _ _, ?_, ?_⟩
            · obtain ⟨v, hv, _⟩ := H9.out
              have := hv.lt; omega
            · obtain ⟨v, hv, hown, rfl, _⟩ := H9.out
              rcases hown.2 with ⟨rfl, _⟩ | ⟨g, cap, cur, rfl, _, hg, _⟩
              · simp [Value.ownBlock]
              · have := (Array.getElem?_eq_some_iff.1 hg).1
                simp only [Value.ownBlock]
                intro e; simp at e; omega
          clear hwA hbA H9 HB9 HY9 c2
          generalize w9.heap.size = z at *
          go_wp2_with fail
          go_loopg [9, 50] 4 (fun t v9 v50 w2 => ∃ (j : Nat) (o : Option Nat) (l2 : List Nat), j + t = 4 ∧ v50 = .int .i64 (j : Int) ∧ Below m w w2 ∧ w2.heap[y]? = some (.cells #[.slice aj nj cj, .int .i64 lj, .int .u32 (kj : Int), .slice ac nc cc, .int .i64 lc, .int .u32 (kc : Int)] 30 (0, 0)) ∧ Beside z (row8 (four la)) w2 q o ∧ PenAt m w2 q o l2 ∧ l2.length ≤ 140 + 2000 * i + 1000 + j ∧ Hid (l2 ++ ((four la).drop j ++ rest) = T))
          case atStart => exact ⟨0, o9, l3, rfl, rfl, HBA.out, HYA.out, HZA.out, HPA.out, HL9.out, HT9⟩
          case round =>
            obtain ⟨j4, oB, lB, hjB, rfl, hbB, hyB, hzB, hpB, hlB, htB⟩ := hrel
            have HBB := hid hbB
            have HYB := hid hyB
            have HZB := hid hzB
            have HPB := hid hpB
            have HLB := hid hlB
            have HJB := hid hjB
            clear HBA HYA HZA HPA HL9 HT9
            by_cases hj4 : j4 < 4
            · have hji4 : (j4 : Int) < 4 := by omega
              have hdr : (four la).drop j4 = (four la).getD j4 0 :: (four la).drop (j4 + 1) := by
                rw [List.drop_eq_getElem_cons (by rw [four_len]; exact hj4), List.getD_eq_getElem?_getD, List.getElem?_eq_getElem (by rw [four_len]; exact hj4)]; rfl
              have hcB : wr.cell? ⟨z, j4, none⟩ = some (.int .u8 ((four la).getD j4 0 : Nat)) := by
                rw [cell_of_row wr z j4 _ 5 (0, 0) hzB.1]; exact row8_get _ _ (by rw [four_len]; exact hj4)
              have hXr := Pen.getD_lt (Crc.four_lt HLA.out.1) j4
              rw [hdr] at htB
              generalize (four la).getD j4 0 = X at *
              have HT2 : Hid ((lB ++ [X]) ++ ((four la).drop (j4 + 1) ++ rest) = T) := by
                show _ = _
                rw [← htB.out]; simp
              have HXr := hid hXr
              clear htB hdr hbB hyB hzB hpB hlB hjB hXr
              go_wp2_with fail
              refine (wb X HXr.out (by have := HLB.out; omega) HPB.out).mono ?_
              rintro e w8 ⟨rfl, o8, h8, b8, k8, s8⟩
              have H8 := hid h8
              have HB8 := hid (HBB.out.trans b8)
              have HY8 := hid (k8 _ _ _ _ HYB.out (by decide) (by decide))
              have HZ8 := hid (s8 _ _ HZB.out)
              clear h8 b8 k8 s8 HBB HYB HPB HZB
              go_wp2_with fail
              go_roundg (gk - 1)
              case measure => have := HJB.out; omega
              case rel => exact ⟨j4 + 1, o8, lB ++ [X], by have := HJB.out; omega, by go_num, HB8.out, HY8.out, HZ8.out, H8.out, by have := HLB.out; simp; omega, HT2⟩
            · have hji4 : ¬ (j4 : Int) < 4 := by omega
              have HT4 : Hid (lB ++ rest = T) := by
                have e := htB.out
                rw [List.drop_eq_nil_of_le (by rw [four_len]; omega)] at e
                exact e
              clear htB hbB hyB hzB hpB hlB hjB
              go_wp2_with fail
              go_roundg g1
              case measure => have := HG1.out; omega
              case rel => exact ⟨i + 1, oB, lB, by have := HG1.out; omega, by go_num, HBB.out, HYB.out, HPB.out, by have := HLB.out; have := HJB.out; omega, by rw [HRE.out]; exact HT4⟩
    · have hii : ¬ (i : Int) < 2 := by omega
      have HTe : Hid (l0' = T) := by
        have e := ht.out
        rw [show i = 2 by omega] at e
        show _ = _
        simpa [encs] using e
      have HI2 := hid hi
      clear hi hb hy hp hle ht
      go_wp2_with fail
      have e := HTe.out
      subst e
      have hne : l0' ≠ [] := by
        have e := HT.out
        intro h
        rw [h] at e
        simp at e
      refine (Pen.bytes_any hne (by have := HLi.out; have := HI2.out; omega) HPi.out).mono ?_
      rintro e w6 ⟨g, cap', rfl, h6, b6, c6, d6⟩
      have H6 := hid (And.intro h6 (And.intro c6 d6))
      have HB6 := hid (HBi.out.trans (b6.mono (HM.out ▸ HBi.out.size)))
      clear h6 b6 c6 d6
      generalize hL : l0'.length = L at *
      have HLL := hid hL
      clear hL
      go_wp2_with fail
      go_ret
      exact ⟨g, cap', by rw [HLL.out]; rfl, H6.out.1, HM.out ▸ HB6.out, by rw [HLL.out]; exact H6.out.2.1, H6.out.2.2⟩
end Go.Proofs.Ytmfmhlhpleahpaa
