/- What the document's own Bytes answers. Condition: the slot may be. -/
import Derived.Test.YtmfmhlhpleahpaaSupR
import Derived.Test.YtmfmhlhpleahpaaCRef
namespace Go.Proofs.Ytmfmhlhpleahpaa
open Go.RowKit Pen
open Crc (four nx)
set_option maxRecDepth 4000
set_option linter.constructorNameAsVariable false
theorem num_ne (n : Nat) : num n ≠ [] := by
  unfold num
  split <;> simp
theorem rnum_row (W : World) (z : Int) (hz : z < 9223372036854775808) (ln : Nat) (hln : (num z.toNat).length = ln) : Calls Try.prog 32 #[.int .i64 z] W fun e w' => ∃ g cap, e = .returned (.slice (some ⟨g, 0, none⟩) ln cap) ∧ Row w' (some ⟨g, 0, none⟩) (num z.toNat) ∧ Below W.heap.size W w' := by
  subst hln
  refine (rnum_any W z hz).mono ?_
  rintro e w' ⟨g, cap, rfl, ho, hb⟩
  exact ⟨g, cap, rfl, (row_of_owns' rfl ho (num_lt _)).2, hb⟩
theorem four_row (c : Nat) (hc : c < 4294967296) (w : World) :
    Calls Try.prog 33 #[.int .u32 (c : Int)] w fun e w' => ∃ y, e = .returned (.slice (some ⟨y, 0, none⟩) 4 4) ∧ Row w' (some ⟨y, 0, none⟩) (four c) ∧ Below w.heap.size w w' := by
  refine (Crc.four_any c hc w).mono ?_
  rintro e w' ⟨rfl, hw⟩
  refine ⟨w.heap.size, rfl, ?_, ?_⟩
  · rw [hw]; exact row_new w (four c) (Crc.four_lt hc) 5 (0, 0)
  · rw [hw]; exact (Below.refl _ _).alloc (Nat.le_refl _) _
/-- One of two logs: what its value holds. -/
structure LogAt (w : World) (a : Option Addr) (n : Nat) (l : Int) (k : Nat) (sg : List Int) : Prop where
  row : IRow w a sg
  len : sg.length = n
  few : n ≤ 96
  l0 : 0 ≤ l
  lm : l ≤ 2147483647
  km : k < 4294967296
  seg : ∀ x ∈ sg, 0 ≤ x ∧ x < 256
/-- The k-th of them, whatever k. -/
theorem pick_log {w W : World} {s : Nat} {aj ac : Option Addr} {nj cj nc cc kj kc : Nat} {lj lc : Int} {sj sc : List Int} (h1 : LogAt w aj nj lj kj sj) (h2 : LogAt w ac nc lc kc sc) (hs : W.heap[s]? = some (.cells #[.slice aj nj cj, .int .i64 lj, .int .u32 (kj : Int), .slice ac nc cc, .int .i64 lc, .int .u32 (kc : Int)] 25 (0, 0))) (k : Nat) (hk : k < 2) :
    ∃ (a : Option Addr) (n c : Nat) (l : Int) (z : Nat) (sg : List Int), LogAt w a n l z sg ∧ W.cell? ⟨s, k * 3, none⟩ = some (.slice a n c) ∧ W.cell? ⟨s, k * 3 + 1, none⟩ = some (.int .i64 l) ∧ W.cell? ⟨s, k * 3 + 2, none⟩ = some (.int .u32 (z : Int)) ∧ encs (([⟨sj, lj, kj⟩, ⟨sc, lc, kc⟩] : List Lg).drop k) = num n ++ (sg.map Int.toNat ++ (num l.toNat ++ (four z ++ encs (([⟨sj, lj, kj⟩, ⟨sc, lc, kc⟩] : List Lg).drop (k + 1))))) := by
  obtain ⟨c0, c1, c2, c3, c4, c5⟩ := cells6 hs
  rcases (by omega : k = 0 ∨ k = 1) with rfl | rfl
  · exact ⟨aj, nj, cj, lj, kj, sj, h1, c0, c1, c2, by rw [← h1.len]; simp [encs, Lg.enc]⟩
  · exact ⟨ac, nc, cc, lc, kc, sc, h2, c3, c4, c5, by rw [← h2.len]; simp [encs, Lg.enc]⟩
theorem cell_same {W W' : World} {b : Nat} (h : W.heap[b]? = W'.heap[b]?) (o : Nat) : W.cell? ⟨b, o, none⟩ = W'.cell? ⟨b, o, none⟩ := by simp only [World.cell?, h]
/-- An append onto a row of the call's own, or nil. -/
theorem own_app1 {W : World} {base : Nat} {v : Value} {l1 : List Nat} (hown : W.ownsRow base 5 1 v l1.length (vals l1)) (hlt : ∀ x ∈ l1, x < 256) (ty : TypeId) (a : Option Addr) (l : List Nat) (n c : Nat) (hn : l.length = n) (hr : Row W a l) (hne : l ≠ []) (k : Nat) (hk : l1.length + n = k) (hsz : k ≤ 1000000000) (hbase : base ≤ W.heap.size) :
    ∃ g cap w', (Builtin.append_ #[35, 35] ty #[v, .slice a n c]).run Try.prog W = .ok (.slice (some ⟨g, 0, none⟩) k cap) w' ∧ Mine base w' g k cap (l1 ++ l) ∧ Below base W w' := by
  subst hn
  subst hk
  obtain ⟨g, cap, w', hrun, h2, h3, _⟩ := run_append_row W ty base v l1 hown a l c hr hne hsz hbase
  rw [List.length_append] at hrun h2
  refine ⟨g, cap, w', hrun, ⟨List.length_append, fun x hx => ?_, h2⟩, (Below.refl base W).grown h3 hbase ?_⟩
  · rcases List.mem_append.1 hx with hx | hx
    · exact hlt x hx
    · exact hr.1 x hx
  · rcases hown.2 with ⟨rfl, _⟩ | ⟨g9, c9, cur, rfl, hb', _⟩
    · intro k hk; simp [Value.ownBlock] at hk
    · intro k hk; simp [Value.ownBlock] at hk; omega
/-- What stays while the bytes are written. -/
structure RB (w : World) (q s : Nat) (C D : Array Value) (g m cap : Nat) (L : List Nat) (v : World) : Prop where
  mine : Mine w.heap.size v g m cap L
  bq : v.heap[q]? = some (.cells C 27 (0, 0))
  bs : v.heap[s]? = some (.cells D 25 (0, 0))
  low : Below w.heap.size w v
theorem RB.below {w v v' : World} {q s g m cap : Nat} {C D : Array Value} {L : List Nat} (h : RB w q s C D g m cap L v) (hb : Below v.heap.size v v') : RB w q s C D g m cap L v' :=
  ⟨h.mine.below hb, keep5_below hb _ _ _ _ h.bq (by decide), keep5_below hb _ _ _ _ h.bs (by decide), h.low.trans (hb.mono h.low.size)⟩
theorem RB.app {w v : World} {q s g m cap : Nat} {C D : Array Value} {L : List Nat} (h : RB w q s C D g m cap L v) (ty : TypeId) (a : Option Addr) (l : List Nat) (n c : Nat) (hn : l.length = n) (hr : Row v a l) (k : Nat) (hk : m + n = k) (hsz : k ≤ 1000000000) :
    ∃ g' cap' v', (Builtin.append_ #[35, 35] ty #[.slice (some ⟨g, 0, none⟩) m cap, .slice a n c]).run Try.prog v = .ok (.slice (some ⟨g', 0, none⟩) k cap') v' ∧ RB w q s C D g' k cap' (L ++ l) v' := by
  obtain ⟨g', c', v', hrun, hm, hb, hk5⟩ := h.mine.app ty a l n c hn hr k hk hsz h.low.size
  exact ⟨g', c', v', hrun, hm, hk5 _ _ _ _ h.bq (by decide), hk5 _ _ _ _ h.bs (by decide), h.low.trans hb⟩
set_option maxRecDepth 20000 in
set_option maxHeartbeats 8000000 in
theorem refBytes_any (w : World) (nb bt : Int) (aj : Option Addr) (nj cj : Nat) (lj : Int) (kj : Nat) (ac : Option Addr) (nc cc : Nat) (lc : Int) (kc : Nat) (sj sc : List Int)
    (hj : IRow w aj sj) (hnj : sj.length = nj) (hc : IRow w ac sc) (hnc : sc.length = nc) (hkj : kj < 4294967296) (hkc : kc < 4294967296)
    (sp : Sp) (hs : sp = ⟨nb, bt, ⟨sj, lj, kj⟩, ⟨sc, lc, kc⟩⟩) (hok : sp.Ok 96) :
    Calls Try.prog 15 #[.agg #[.int .i64 nb, .int .i64 bt, .slice aj nj cj, .int .i64 lj, .int .u32 (kj : Int), .slice ac nc cc, .int .i64 lc, .int .u32 (kc : Int)]] w fun e w' => ∃ g cap, e = .returned (.slice (some ⟨g, 0, none⟩) 256 cap) ∧ Row w' (some ⟨g, 0, none⟩) sp.bytes ∧ Below w.heap.size w w' := by
  have hfew := hok.few
  have hok2 := hok
  obtain ⟨a1, a2, a3, a4, a5, a6⟩ := hok2
  rw [hs] at a1 a2 a3 a5 a6 hfew
  dsimp only at a1 a2 a3 a5 a6 hfew
  have HNB : Hid (0 ≤ nb ∧ nb ≤ 2147483647 ∧ 0 ≤ bt ∧ bt ≤ 2147483647) := by show _ ∧ _; omega
  have HLJ : Hid (LogAt w aj nj lj kj sj) := ⟨hj, hnj, by omega, by omega, by omega, hkj, fun x hx => by have := a3 x (by simp [hx]); omega⟩
  have HLC : Hid (LogAt w ac nc lc kc sc) := ⟨hc, hnc, by omega, by omega, by omega, hkc, fun x hx => by have := a3 x (by simp [hx]); omega⟩
  have HTO : Hid (([84, 82] ++ num nb.toNat) ++ num bt.toNat ++ encs [⟨sj, lj, kj⟩, ⟨sc, lc, kc⟩] = sp.told) := by
    show _ = _
    rw [told_encs, hs]; simp
  have HTL := hid (told_len hok)
  have HBY : Hid (sp.bytes = packs 4 (four nb.toNat) (summed sp.told)) := by show _ = _; unfold Sp.bytes; rw [hs]
  have HTB := hid (told_lt hok (by rw [hs]; exact hkj) (by rw [hs]; exact hkc))
  generalize sp.told = TO at *
  generalize sp.bytes = BY at *
  clear hfew a1 a2 a3 a4 a5 a6 hj hnj hc hnc hkj hkc hs hok
  obtain ⟨w1, hw1⟩ : ∃ w1, w1 = w.alloc (.cells #[.int .i64 nb, .int .i64 bt, .slice aj nj cj, .int .i64 lj, .int .u32 (kj : Int), .slice ac nc cc, .int .i64 lc, .int .u32 (kc : Int)] 27) := ⟨_, rfl⟩
  have hb1 : Below w.heap.size w w1 := by rw [hw1]; exact (Below.refl _ _).alloc (Nat.le_refl _) _
  have hq1 : w1.heap[w.heap.size]? = some (.cells #[.int .i64 nb, .int .i64 bt, .slice aj nj cj, .int .i64 lj, .int .u32 (kj : Int), .slice ac nc cc, .int .i64 lc, .int .u32 (kc : Int)] 27 (0, 0)) := by rw [hw1]; exact heap_alloc_new _ _
  have hz1 : w1.heap.size = w.heap.size + 1 := by rw [hw1]; simp
  obtain ⟨w2, hw2⟩ : ∃ w2, w2 = w1.alloc (.cells #[.int .u8 84, .int .u8 82] 5 (2, 3)) := ⟨_, rfl⟩
  have hcv : (convert 35 35 (.slice (some ⟨w1.heap.size, 0, none⟩) 2 2)).run Try.prog (w1.alloc (.cells #[.int .u8 84, .int .u8 82] 5)) = .ok (.slice (some ⟨w1.heap.size, 0, none⟩) 2 2) w2 := by
    rw [hw2]; exact Lib.run_convert_bytes_const w1 35 5 _ 2 2 Try.underlying35 Try.underlying5
  have hb2 : Below w1.heap.size w1 w2 := by rw [hw2]; exact (Below.refl _ _).alloc (Nat.le_refl _) _
  have HR2 : Hid (Row w2 (some ⟨w1.heap.size, 0, none⟩) [84, 82]) := by rw [hw2]; exact row_new w1 [84, 82] (by simp) 5 (2, 3)
  have HQ2 : Hid (w2.heap[w.heap.size]? = some (.cells #[.int .i64 nb, .int .i64 bt, .slice aj nj cj, .int .i64 lj, .int .u32 (kj : Int), .slice ac nc cc, .int .i64 lc, .int .u32 (kc : Int)] 27 (0, 0))) := (hb2.block _ (by omega)).trans hq1
  have HB2 : Hid (Below w.heap.size w w2) := hb1.trans (hb2.mono hb1.size)
  obtain ⟨e0, e1, e2, e3, e4, e5, e6, e7⟩ := cells8 HQ2.out
  rw [hz1] at hcv HR2
  rw [hw1] at hcv
  clear hb1 hq1 hb2 hw2 hw1 hz1
  obtain ⟨q, hwq⟩ : ∃ q, w.heap.size = q := ⟨_, rfl⟩
  rw [hwq] at hcv HR2 HQ2 e0 e1 e2 e3 e4 e5 e6 e7
  have HWQ := hid hwq
  obtain ⟨L1, hL1⟩ : ∃ n, (num nb.toNat).length = n := ⟨_, rfl⟩
  obtain ⟨L2, hL2⟩ : ∃ n, (num bt.toNat).length = n := ⟨_, rfl⟩
  have HLL : Hid (L1 ≤ 10 ∧ L2 ≤ 10) := ⟨by rw [← hL1]; exact num_le10 (by have := HNB.out; omega), by rw [← hL2]; exact num_le10 (by have := HNB.out; omega)⟩
  have HL1 := hid hL1
  have HL2 := hid hL2
  clear hL1 hL2
  go_enter Try.func15, Try.ntmps15
  rw [hwq]
  go_wp2_with fail
  clear hwq
  refine (rnum_row w2 nb (by have := HNB.out; omega) L1 HL1.out).mono ?_
  rintro e w3 ⟨g3, c3, rfl, hr3, hb3⟩
  obtain ⟨c4, w4, hrun4, hm4, hb4⟩ := mine_mark 35 (q + 1) [84, 82] (HR2.out.below hb3) (by simp) 2 rfl _ (num nb.toNat) L1 c3 HL1.out hr3 (num_ne _) (2 + L1) rfl (by have := HLL.out; omega)
  have hb24 := hb3.trans (hb4.mono hb3.size)
  have HM4 : Hid (Mine w.heap.size w4 w3.heap.size (2 + L1) c4 ([84, 82] ++ num nb.toNat)) := hm4.low (Nat.le_trans HB2.out.size hb3.size)
  have HQ4 := hid (keep5_below hb24 _ _ _ _ HQ2.out (by decide))
  have HB4 := hid (HB2.out.trans (hb24.mono HB2.out.size))
  have HR4 := hid hrun4
  clear hr3 hb3 hrun4 hm4 hb4 hb24 HR2 HQ2 HB2 hcv e0 e1 e2 e3 e4 e5 e6 e7
  obtain ⟨e0, e1, e2, e3, e4, e5, e6, e7⟩ := cells8 HQ4.out
  generalize w3.heap.size = g4 at *
  have tok : True := trivial
  go_wp2_with (at_builtin; have _t := tok; refine step_appl 35 rfl _ _ rfl _ _ rfl rfl _ w4 HR4.out ?_; clear tok)
  clear HR4
  refine (rnum_row w4 bt (by have := HNB.out; omega) L2 HL2.out).mono ?_
  rintro e w5 ⟨g5, c5, rfl, hr5, hb5⟩
  obtain ⟨g6, c6, w6, hrun6, hm6, hb6, hk6⟩ := (HM4.out.below hb5).app 35 _ (num bt.toNat) L2 c5 HL2.out hr5 (2 + L1 + L2) rfl (by have := HLL.out; omega) (Nat.le_trans HB4.out.size hb5.size)
  have HQ6 := hid (hk6 _ _ _ _ (keep5_below hb5 _ _ _ _ HQ4.out (by decide)) (by decide))
  have HB6 := hid ((HB4.out.trans (hb5.mono HB4.out.size)).trans hb6)
  have HM6 := hid hm6
  have HR6 := hid hrun6
  clear hr5 hb5 hrun6 hm6 hb6 hk6 HM4 HQ4 HB4 e0 e1 e2 e3 e4 e5 e6 e7
  obtain ⟨e0, e1, e2, e3, e4, e5, e6, e7⟩ := cells8 HQ6.out
  obtain ⟨w7, hw7⟩ : ∃ w7, w7 = w6.alloc (.cells #[.slice aj nj cj, .int .i64 lj, .int .u32 (kj : Int), .slice ac nc cc, .int .i64 lc, .int .u32 (kc : Int)] 25) := ⟨_, rfl⟩
  have hb7 : Below w6.heap.size w6 w7 := by rw [hw7]; exact (Below.refl _ _).alloc (Nat.le_refl _) _
  have HRB7 : Hid (RB w q w6.heap.size #[.int .i64 nb, .int .i64 bt, .slice aj nj cj, .int .i64 lj, .int .u32 (kj : Int), .slice ac nc cc, .int .i64 lc, .int .u32 (kc : Int)] #[.slice aj nj cj, .int .i64 lj, .int .u32 (kj : Int), .slice ac nc cc, .int .i64 lc, .int .u32 (kc : Int)] g6 (2 + L1 + L2) c6 (([84, 82] ++ num nb.toNat) ++ num bt.toNat) w7) := ⟨HM6.out.below hb7, keep5_below hb7 _ _ _ _ HQ6.out (by decide), by rw [hw7]; exact heap_alloc_new _ _, HB6.out.trans (hb7.mono HB6.out.size)⟩
  have HW7 := hid hw7
  clear hw7 hb7
  have tok : True := trivial
  go_wp2_with (at_builtin; have _t := tok; refine step_appl 35 rfl _ _ rfl _ _ rfl rfl _ w6 HR6.out ?_; clear tok)
  rw [← HW7.out]
  clear HR6 HM6 HQ6 HB6 HW7 e0 e1 e2 e3 e4 e5 e6 e7
  generalize w6.heap.size = sb at *
  obtain ⟨m0, hm0⟩ : ∃ m, 2 + L1 + L2 = m := ⟨_, rfl⟩
  rw [hm0] at HRB7 ⊢
  have hm0' : m0 ≤ 22 := by have := HLL.out; omega
  clear hm0
  generalize ([84, 82] ++ num nb.toNat) ++ num bt.toNat = P0 at *
  go_loopg [3, 5] 2 (fun gk v3 v5 wr => ∃ (k g m cap : Nat) (L : List Nat), k + gk = 2 ∧ v5 = .int .i64 (k : Int) ∧ v3 = .slice (some ⟨g, 0, none⟩) m cap ∧ RB w q sb #[.int .i64 nb, .int .i64 bt, .slice aj nj cj, .int .i64 lj, .int .u32 (kj : Int), .slice ac nc cc, .int .i64 lc, .int .u32 (kc : Int)] #[.slice aj nj cj, .int .i64 lj, .int .u32 (kj : Int), .slice ac nc cc, .int .i64 lc, .int .u32 (kc : Int)] g m cap L wr ∧ m ≤ 22 + 2000 * k ∧ Hid (L ++ encs (([⟨sj, lj, kj⟩, ⟨sc, lc, kc⟩] : List Lg).drop k) = TO))
  case atStart => exact ⟨0, g6, m0, c6, P0, rfl, rfl, rfl, HRB7.out, by omega, HTO⟩
  case round =>
    obtain ⟨k, g, m, cap, L, hk, rfl, rfl, hrb, hmk, HT⟩ := hrel
    have HRB := hid hrb
    clear hrb HRB7 HTO
    by_cases hk2 : k < 2
    · have hki : (k : Int) < 2 := by omega
      obtain ⟨ak, nk, ck, lk, zk, sk, hlog, d0, d1, d2, henc⟩ := pick_log HLJ.out HLC.out HRB.out.bs k hk2
      have HLG := hid hlog
      have HEN := hid henc
      clear hlog henc
      obtain ⟨L3, hL3⟩ : ∃ n, (num nk).length = n := ⟨_, rfl⟩
      have hL3' : L3 ≤ 10 := by rw [← hL3]; have h := num_le10 (z := (nk : Int)) (by have := HLG.out.few; omega); rwa [Int.toNat_natCast] at h
      have HL3 := hid hL3
      clear hL3
      obtain ⟨G, hG⟩ : ∃ G, G = gk := ⟨_, rfl⟩
      subst hG
      obtain ⟨L4, hL4⟩ : ∃ n, (num lk.toNat).length = n := ⟨_, rfl⟩
      have hL4' : L4 ≤ 10 := by rw [← hL4]; exact num_le10 (by have := HLG.out.lm; omega)
      have HL4 := hid hL4
      clear hL4
      have HDC : Hid (∀ W : World, W.heap[sb]? = some (.cells #[.slice aj nj cj, .int .i64 lj, .int .u32 (kj : Int), .slice ac nc cc, .int .i64 lc, .int .u32 (kc : Int)] 25 (0, 0)) → W.cell? ⟨sb, k * 3, none⟩ = some (.slice ak nk ck) ∧ W.cell? ⟨sb, k * 3 + 1, none⟩ = some (.int .i64 lk) ∧ W.cell? ⟨sb, k * 3 + 2, none⟩ = some (.int .u32 (zk : Int))) := fun W hW => by
        have e := hW.trans HRB.out.bs.symm
        exact ⟨(cell_same e _).trans d0, (cell_same e _).trans d1, (cell_same e _).trans d2⟩
      have HNK := hid HLG.out.few
      go_wp2_with fail
      have kn := rnum_row wr (nk : Int) (by have := HLG.out.few; omega) L3 (by rw [Int.toNat_natCast]; exact HL3.out)
      rw [Int.toNat_natCast] at kn
      refine kn.mono ?_
      rintro e w8 ⟨g8, c8, rfl, hr8, hb8⟩
      obtain ⟨g9, c9, w9, hrun9, hrb9⟩ := (HRB.out.below hb8).app 35 _ (num nk) L3 c8 HL3.out hr8 (m + L3) rfl (by omega)
      have HRB9 := hid hrb9
      have HR9 := hid hrun9
      clear kn hr8 hb8 hrun9 hrb9 HRB d0 d1 d2
      have tok : True := trivial
      go_wp2_with (at_builtin; have _t := tok; refine step_appl 35 rfl _ _ rfl _ _ rfl rfl _ w9 HR9.out ?_; clear tok)
      clear HR9
      obtain ⟨m1, hm1⟩ : ∃ m1, m + L3 = m1 := ⟨_, rfl⟩
      rw [hm1] at HRB9 ⊢
      have hm1' : m1 ≤ 40 + 2000 * k := by omega
      clear hm1
      go_loopg [3, 6] nk (fun gk v3 v6 wr => ∃ (i g m' cap : Nat), i + gk = nk ∧ v6 = .int .i64 (i : Int) ∧ v3 = .slice (some ⟨g, 0, none⟩) m' cap ∧ m' = m1 + i ∧ RB w q sb #[.int .i64 nb, .int .i64 bt, .slice aj nj cj, .int .i64 lj, .int .u32 (kj : Int), .slice ac nc cc, .int .i64 lc, .int .u32 (kc : Int)] #[.slice aj nj cj, .int .i64 lj, .int .u32 (kj : Int), .slice ac nc cc, .int .i64 lc, .int .u32 (kc : Int)] g m' cap ((L ++ num nk) ++ (sk.take i).map Int.toNat) wr)
      case atStart => exact ⟨0, g9, m1, c9, by omega, rfl, rfl, rfl, by rw [List.take_zero, List.map_nil, List.append_nil]; exact HRB9.out⟩
      case round =>
        obtain ⟨i, gi, mi, ci, hi, rfl, rfl, hmi, hrbi⟩ := hrel
        have HRI := hid hrbi
        have HMI0 := hid hmi
        have hi97 : i < 97 := by have := HNK.out; omega
        clear hrbi HRB9 hmi
        obtain ⟨d0, d1, d2⟩ := HDC.out wr HRI.out.bs
        by_cases hin : i < nk
        · have hii : (i : Int) < (nk : Int) := by omega
          have hil : i < sk.length := by rw [HLG.out.len]; exact hin
          obtain ⟨b, off, rfl, hb, hcell⟩ := (HLG.out.row.below HRI.out.low).cell (by intro h; rw [h] at hil; simp at hil)
          have hci := hcell i hil
          have hseg : 0 ≤ sk.getD i 0 ∧ sk.getD i 0 < 256 := HLG.out.seg _ (by
            rw [List.getD_eq_getElem?_getD, List.getElem?_eq_getElem hil]
            exact List.getElem_mem hil)
          have HTK : Hid ((sk.take (i + 1)).map Int.toNat = (sk.take i).map Int.toNat ++ [(sk.getD i 0).toNat]) := by show _ = _; rw [take_snoc_int sk i hil, List.map_append]; rfl
          obtain ⟨x, hx⟩ : ∃ x : Nat, sk.getD i 0 = (x : Int) := ⟨(sk.getD i 0).toNat, by omega⟩
          rw [hx] at hci hseg HTK
          rw [Int.toNat_natCast] at HTK
          have hx256 : x < 256 := by omega
          have hbA : Below wr.heap.size wr (wr.alloc (.cells #[.int .u8 (x : Int)] 5)) := (Below.refl _ _).alloc (Nat.le_refl _) _
          have hrA : Row (wr.alloc (.cells #[.int .u8 (x : Int)] 5)) (some ⟨wr.heap.size, 0, none⟩) [x] := row_new wr [x] (by simp; exact hx256) 5 (0, 0)
          obtain ⟨gB, cB, wB, hrunB, hrbB⟩ := (HRI.out.below hbA).app 35 _ [x] 1 1 rfl hrA (mi + 1) rfl (by have := HMI0.out; omega)
          have HRB' := hid hrbB
          have HRR := hid hrunB
          have HMI : Hid (mi + 1 = m1 + (i + 1)) := by have := HMI0.out; show _ = _; omega
          clear hcell hb hx hseg hbA hrA hrunB hrbB
          have tok : True := trivial
          go_wp2_with (at_builtin; have _t := tok; refine step_appl 35 rfl _ _ rfl _ _ rfl rfl _ wB HRR.out ?_; clear tok)
          go_roundg (gk - 1)
          case measure => omega
          case rel => exact ⟨i + 1, gB, mi + 1, cB, by omega, by go_num, rfl, HMI.out, by rw [HTK.out, ← List.append_assoc]; exact HRB'.out⟩
        · have hii : ¬ (i : Int) < (nk : Int) := by omega
          obtain rfl : i = nk := by omega
          rw [List.take_of_length_le (by rw [HLG.out.len]; exact Nat.le_refl _)] at HRI
          go_wp2_with fail
          refine wp_region_held_drew (S := fun W => W.heap[sb]? = some (.cells #[.slice aj nj cj, .int .i64 lj, .int .u32 (kj : Int), .slice ac nc cc, .int .i64 lc, .int .u32 (kc : Int)] 25 (0, 0))) (by kernel_rfl) (show wr.drew.heap[sb]? = _ from HRI.out.bs) (fun hHeld => ?_)
          refine take_op 0 (some 61) (.slice (some ⟨gi, 0, none⟩) mi ci) rfl rfl (by kernel_rfl) (by kernel_rfl) (by kernel_rfl) (fun _ _ _ h => h) (by rfl) hHeld (fun W hW => ?_) ?_
          · obtain ⟨d0, d1, d2⟩ := HDC.out W hW
            clear hHeld
            go_simp
          simp only [Act.put, List.setIfInBounds_toArray, List.set_cons_zero, List.set_cons_succ]
          refine take_op 1 (some 62) (.slice (some ⟨sb, 0, none⟩) 2 2) rfl rfl (by kernel_rfl) (by kernel_rfl) (by kernel_rfl) (fun _ _ _ h => h) (by rfl) hHeld (fun W hW => ?_) ?_
          · obtain ⟨d0, d1, d2⟩ := HDC.out W hW
            clear hHeld
            go_simp
          simp only [Act.put, List.setIfInBounds_toArray, List.set_cons_zero, List.set_cons_succ]
          refine take_op 2 (some 63) (.int .i64 (k : Int)) rfl rfl (by kernel_rfl) (by kernel_rfl) (by kernel_rfl) (fun _ _ _ h => h) (by rfl) hHeld (fun W hW => ?_) ?_
          · obtain ⟨d0, d1, d2⟩ := HDC.out W hW
            clear hHeld
            go_simp
          simp only [Act.put, List.setIfInBounds_toArray, List.set_cons_zero, List.set_cons_succ]
          refine take_op 3 (some 64) (.pointer (some ⟨sb, k * 3, none⟩)) rfl rfl (by kernel_rfl) (by kernel_rfl) (by kernel_rfl) (fun _ _ _ h => h) (by rfl) hHeld (fun W hW => ?_) ?_
          · obtain ⟨d0, d1, d2⟩ := HDC.out W hW
            clear hHeld
            go_simp
          simp only [Act.put, List.setIfInBounds_toArray, List.set_cons_zero, List.set_cons_succ]
          refine take_op 4 (some 65) (.pointer (some ⟨sb, k * 3 + 1, none⟩)) rfl rfl (by kernel_rfl) (by kernel_rfl) (by kernel_rfl) (fun _ _ _ h => h) (by rfl) hHeld (fun W hW => ?_) ?_
          · obtain ⟨d0, d1, d2⟩ := HDC.out W hW
            clear hHeld
            go_simp
          simp only [Act.put, List.setIfInBounds_toArray, List.set_cons_zero, List.set_cons_succ]
          refine take_op 5 (some 66) (.int .i64 lk) rfl rfl (by kernel_rfl) (by kernel_rfl) (by kernel_rfl) (fun _ _ _ h => h) (by rfl) hHeld (fun W hW => ?_) ?_
          · obtain ⟨d0, d1, d2⟩ := HDC.out W hW
            clear hHeld
            go_simp
          simp only [Act.put, List.setIfInBounds_toArray, List.set_cons_zero, List.set_cons_succ]
          refine take_op 8 (some 69) (.slice (some ⟨sb, 0, none⟩) 2 2) rfl rfl (by kernel_rfl) (by kernel_rfl) (by kernel_rfl) (fun _ _ _ h => h) (by rfl) hHeld (fun W hW => ?_) ?_
          · obtain ⟨d0, d1, d2⟩ := HDC.out W hW
            clear hHeld
            go_simp
          simp only [Act.put, List.setIfInBounds_toArray, List.set_cons_zero, List.set_cons_succ]
          refine take_op 9 (some 70) (.int .i64 (k : Int)) rfl rfl (by kernel_rfl) (by kernel_rfl) (by kernel_rfl) (fun _ _ _ h => h) (by rfl) hHeld (fun W hW => ?_) ?_
          · obtain ⟨d0, d1, d2⟩ := HDC.out W hW
            clear hHeld
            go_simp
          simp only [Act.put, List.setIfInBounds_toArray, List.set_cons_zero, List.set_cons_succ]
          refine take_op 10 (some 71) (.pointer (some ⟨sb, k * 3, none⟩)) rfl rfl (by kernel_rfl) (by kernel_rfl) (by kernel_rfl) (fun _ _ _ h => h) (by rfl) hHeld (fun W hW => ?_) ?_
          · obtain ⟨d0, d1, d2⟩ := HDC.out W hW
            clear hHeld
            go_simp
          simp only [Act.put, List.setIfInBounds_toArray, List.set_cons_zero, List.set_cons_succ]
          refine take_op 11 (some 72) (.pointer (some ⟨sb, k * 3 + 2, none⟩)) rfl rfl (by kernel_rfl) (by kernel_rfl) (by kernel_rfl) (fun _ _ _ h => h) (by rfl) hHeld (fun W hW => ?_) ?_
          · obtain ⟨d0, d1, d2⟩ := HDC.out W hW
            clear hHeld
            go_simp
          simp only [Act.put, List.setIfInBounds_toArray, List.set_cons_zero, List.set_cons_succ]
          refine take_op 12 (some 73) (.int .u32 (zk : Int)) rfl rfl (by kernel_rfl) (by kernel_rfl) (by kernel_rfl) (fun _ _ _ h => h) (by rfl) hHeld (fun W hW => ?_) ?_
          · obtain ⟨d0, d1, d2⟩ := HDC.out W hW
            clear hHeld
            go_simp
          simp only [Act.put, List.setIfInBounds_toArray, List.set_cons_zero, List.set_cons_succ]
          have hd1 : Below wr.heap.size wr wr.drew := ⟨rfl, rfl, rfl, Nat.le_refl _, fun _ _ => rfl⟩
          have HR0 := hid (HRI.out.below hd1)
          clear hd1
          refine wpAnyH_ready (rs := [6]) (by kernel_rfl) (by simp) (AllReadyH.cons rfl (fun K hK => ?_) AllReadyH.nil)
          have HK6 := hid hK
          clear hK hHeld
          go_simp
          refine (rnum_row _ lk (by have := HLG.out.lm; omega) L4 HL4.out).mono ?_
          rintro e wN ⟨gN, cN, rfl, hrN, hbN⟩
          have HRN := hid (HR0.out.below hbN)
          refine HK6.out.out _ _ HRN.out.bs (fun hHeld => ?_)
          obtain ⟨gP, cP, wP, hrunP, hrbP⟩ := HRN.out.app 35 _ (num lk.toNat) L4 cN HL4.out hrN (mi + L4) rfl (by have := HMI0.out; omega)
          clear HK6 hrN hbN HR0
          refine wpAnyH_ready (rs := [7]) (by kernel_rfl) (by simp) (AllReadyH.cons rfl (fun K hK => ?_) AllReadyH.nil)
          have HK7 := hid hK
          clear hK hHeld
          refine step_app3 35 rfl _ _ rfl _ _ rfl rfl _ wP hrunP 68 rfl ?_
          refine HK7.out.out _ _ hrbP.bs (fun hHeld => ?_)
          clear HK7 hrunP HRN
          simp only [Act.put, List.setIfInBounds_toArray, List.set_cons_zero, List.set_cons_succ]
          have HRP := hid hrbP
          clear hrbP
          refine wpAnyH_ready (rs := [13]) (by kernel_rfl) (by simp) (AllReadyH.cons rfl (fun K hK => ?_) AllReadyH.nil)
          have HK13 := hid hK
          clear hK hHeld
          go_simp
          refine (four_row zk HLG.out.km _).mono ?_
          rintro e wF ⟨yF, rfl, hrF, hbF⟩
          have HRF := hid (HRP.out.below hbF)
          refine HK13.out.out _ _ HRF.out.bs (fun hHeld => ?_)
          obtain ⟨gS, cS, wS, hrunS, hrbS⟩ := HRF.out.app 35 _ (four zk) 4 4 rfl hrF (mi + L4 + 4) rfl (by have := HMI0.out; omega)
          clear HK13 hrF hbF HRP
          refine wpAnyH_ready (rs := [14]) (by kernel_rfl) (by simp) (AllReadyH.cons rfl (fun K hK => ?_) AllReadyH.nil)
          have HK14 := hid hK
          clear hK hHeld
          refine step_app3 35 rfl _ _ rfl _ _ rfl rfl _ wS hrunS 75 rfl ?_
          refine HK14.out.out _ _ hrbS.bs (fun hHeld => ?_)
          clear HK14 hrunS HRF
          simp only [Act.put, List.setIfInBounds_toArray, List.set_cons_zero, List.set_cons_succ]
          refine take_op 15 (some 3) (.slice (some ⟨gS, 0, none⟩) (mi + L4 + 4) cS) rfl rfl (by kernel_rfl) (by kernel_rfl) (by kernel_rfl) (fun _ _ _ h => h) (by rfl) hHeld (fun W hW => ?_) ?_
          · clear hHeld
            go_simp
          simp only [Act.put, List.setIfInBounds_toArray, List.set_cons_zero, List.set_cons_succ]
          have HRS := hid hrbS
          clear hrbS hHeld
          refine wpAnyH_done (by kernel_rfl) ?_ _
          have HTN : Hid ((((L ++ num i) ++ sk.map Int.toNat) ++ num lk.toNat) ++ four zk ++ encs (([⟨sj, lj, kj⟩, ⟨sc, lc, kc⟩] : List Lg).drop (k + 1)) = TO) := by
            show _ = _
            rw [← HT.out, HEN.out]
            simp only [List.append_assoc]
          have HMN : Hid (mi + L4 + 4 ≤ 22 + 2000 * (k + 1)) := by have := HMI0.out; show _ ≤ _; omega
          go_wp2_with fail
          go_roundg (G - 1)
          case measure => omega
          case rel => exact ⟨k + 1, gS, mi + L4 + 4, cS, _, by omega, by go_num, rfl, HRS.out, HMN.out, HTN⟩
    · have hki : ¬ (k : Int) < 2 := by omega
      obtain rfl : k = 2 := by omega
      have hTO : L = TO := by have h := HT.out; rw [show (([⟨sj, lj, kj⟩, ⟨sc, lc, kc⟩] : List Lg).drop 2) = [] from rfl] at h; simpa [encs] using h
      subst hTO
      have hm124 : m ≤ 124 := by rw [← HRB.out.mine.1]; exact HTL.out
      have HML := hid HRB.out.mine.1
      clear HT hk hki
      go_wp2_with fail
      go_loopg [3] (220 - m) (fun gk v3 wr => ∃ (g m' cap j : Nat), m' + gk = 220 ∧ m' = m + j ∧ v3 = .slice (some ⟨g, 0, none⟩) m' cap ∧ RB w q sb #[.int .i64 nb, .int .i64 bt, .slice aj nj cj, .int .i64 lj, .int .u32 (kj : Int), .slice ac nc cc, .int .i64 lc, .int .u32 (kc : Int)] #[.slice aj nj cj, .int .i64 lj, .int .u32 (kj : Int), .slice ac nc cc, .int .i64 lc, .int .u32 (kc : Int)] g m' cap (L ++ List.replicate j 0) wr)
      case atStart => exact ⟨g, m, cap, 0, by omega, rfl, rfl, by rw [List.replicate_zero, List.append_nil]; exact HRB.out⟩
      case round =>
        obtain ⟨gi, mi, ci, j, hmg, hmj, rfl, hrbi⟩ := hrel
        have HRI := hid hrbi
        have HMJ := hid (And.intro hmg hmj)
        clear hrbi HRB hmg hmj
        by_cases h220 : mi < 220
        · have hii : (mi : Int) < 220 := by omega
          have hbA : Below wr.heap.size wr (wr.alloc (.cells #[.int .u8 0] 5)) := (Below.refl _ _).alloc (Nat.le_refl _) _
          have hrA : Row (wr.alloc (.cells #[.int .u8 0] 5)) (some ⟨wr.heap.size, 0, none⟩) [0] := row_new wr [0] (by simp) 5 (0, 0)
          obtain ⟨gB, cB, wB, hrunB, hrbB⟩ := (HRI.out.below hbA).app 35 _ [0] 1 1 rfl hrA (mi + 1) rfl (by omega)
          have HRB' := hid hrbB
          have HRR := hid hrunB
          clear hbA hrA hrunB hrbB
          have tok : True := trivial
          go_wp2_with (at_builtin; have _t := tok; refine step_appl 35 rfl _ _ rfl _ _ rfl rfl _ wB HRR.out ?_; clear tok)
          go_roundg (gk - 1)
          case measure => have := HMJ.out; omega
          case rel => exact ⟨gB, mi + 1, cB, j + 1, by have := HMJ.out; omega, by have := HMJ.out; omega, rfl, by rw [List.replicate_succ', ← List.append_assoc]; exact HRB'.out⟩
        · have hii : ¬ (mi : Int) < 220 := by omega
          obtain rfl : mi = 220 := by have := HMJ.out; omega
          have hpad : L ++ List.replicate j 0 = pad L := by unfold pad; rw [HML.out, show 220 - m = j by have := HMJ.out; omega]
          rw [hpad] at HRI
          have HPL := hid HRI.out.mine.1
          have kx := Crc.ref_any 0 (by decide) (some ⟨gi, 0, none⟩) (pad L) ci wr HRI.out.mine.row.2 (by rw [HPL.out]; decide)
          rw [HPL.out] at kx
          have HKX := hid kx
          have HSU := hid (Crc.nx_lt 0 (pad L))
          have HSM : Hid (pad L ++ four (nx 0 (pad L)) = summed L) := rfl
          generalize nx 0 (pad L) = SU at *
          clear kx hpad
          go_wp2_with fail
          refine HKX.out.mono ?_
          rintro e wx ⟨rfl, hwx⟩
          subst hwx
          clear HKX
          go_wp2_with fail
          refine (four_row SU HSU.out wx).mono ?_
          rintro e wF ⟨yF, rfl, hrF, hbF⟩
          obtain ⟨gS, cS, wS, hrunS, hrbS⟩ := (HRI.out.below hbF).app 35 _ (four SU) 4 4 rfl hrF 224 rfl (by decide)
          rw [HSM.out] at hrbS
          have HRS := hid hrbS
          have HRR := hid hrunS
          obtain ⟨e0, _, _, _, _, _, _, _⟩ := cells8 hrbS.bq
          clear hrF hbF hrunS hrbS HRI
          obtain ⟨nN, hnN⟩ : ∃ n : Nat, nb = (n : Int) := ⟨nb.toNat, by have := HNB.out; omega⟩
          subst hnN
          have hN : nN < 2147483648 := by have := HNB.out; omega
          rw [Int.toNat_natCast] at HBY
          have tok : True := trivial
          go_wp2_with (at_builtin; have _t := tok; refine step_appl 35 rfl _ _ rfl _ _ rfl rfl _ wS HRR.out ?_; clear tok)
          refine (four_row nN (by omega) wS).mono ?_
          rintro e wG ⟨yG, rfl, hrG, hbG⟩
          have HRG := hid (HRS.out.below hbG)
          have HFG := hid hrG
          clear hrG hbG HRS HRR e0
          go_wp2_with fail
          have HCS := hid HRG.out.mine.row.1
          have HSL := hid HRG.out.mine.1
          have HBR := hid HRG.out.mine.row.2
          have HLW := hid HRG.out.low
          go_loopg [8, 9] 4 (fun gk v8 v9 wr => ∃ (i : Nat) (O : List Nat), i + gk = 4 ∧ v9 = .int .i64 (i : Int) ∧ wr.ownsRow wG.heap.size 5 1 v8 O.length (vals O) ∧ (∀ x ∈ O, x < 256) ∧ O.length = 64 * i ∧ Below wG.heap.size wG wr ∧ Hid (O ++ packs gk (four nN) ((summed L).drop (56 * i)) = BY))
          case atStart => exact ⟨0, [], rfl, rfl, World.ownsRow_nil _ _ 5 1, by simp, rfl, Below.refl _ _, by show _ = _; rw [HBY.out]; rfl⟩
          case round =>
            obtain ⟨i, O, hi, rfl, hown, holt, hol, hbr, HPK⟩ := hrel
            have HOW := hid hown
            have HOL := hid (And.intro holt hol)
            have HBW := hid hbr
            clear hown holt hol hbr HRG
            by_cases hi4 : i < 4
            · have hii : (i : Int) < 4 := by omega
              obtain ⟨k, rfl⟩ : ∃ k, gk = k + 1 := ⟨gk - 1, by omega⟩
              have hsl : ∀ w, (Instr.slice 35 (.slice (some ⟨gS, 0, none⟩) 224 cS) (some (.int .i64 ((i : Int) * 56))) (some (.int .i64 (((i : Int) + 1) * 56))) none).run Try.prog w = .ok (.slice (fromA (some ⟨gS, 0, none⟩) (i * 56) cS) 56 (cS - i * 56)) w := fun w => by
                have h := slice_mid w (some ⟨gS, 0, none⟩) 224 cS (i * 56) ((i + 1) * 56) (by omega) (by have := HCS.out; omega)
                rw [show (i + 1) * 56 - i * 56 = 56 by omega, show ((i * 56 : Nat) : Int) = (i : Int) * 56 by omega, show (((i + 1) * 56 : Nat) : Int) = ((i : Int) + 1) * 56 by omega] at h
                exact h
              have hmid := row_take (row_drop HBR.out (i * 56) cS (by rw [HSL.out]; exact HCS.out)) 56
              have hml : (((summed L).drop (i * 56)).take 56).length = 56 := by rw [List.length_take, List.length_drop, HSL.out]; omega
              generalize fromA (some ⟨gS, 0, none⟩) (i * 56) cS = aS at *
              have hd0 : Below wr.heap.size wr wr.drew := ⟨rfl, rfl, rfl, Nat.le_refl _, fun _ _ => rfl⟩
              have hbG0 : Below wG.heap.size wG wr.drew := HBW.out.trans (hd0.mono HBW.out.size)
              have hown0 : wr.drew.ownsRow wG.heap.size 5 1 u8 O.length (vals O) := HOW.out
              obtain ⟨g1, p1, x1, r1, m1, b1⟩ := own_app1 hown0 HOL.out.1 35 _ (four nN) 4 4 rfl (HFG.out.below hbG0) (by simp [four]) (64 * i + 4) (by rw [HOL.out.2]) (by omega) hbG0.size
              have hbG1 := hbG0.trans b1
              obtain ⟨g2, p2, x2, r2, m2, b2, _⟩ := m1.app 35 aS _ 56 (cS - i * 56) hml (hmid.below hbG1) (64 * i + 4 + 56) rfl (by omega) hbG1.size
              have hbG2 := hbG1.trans b2
              obtain ⟨g3', p3, x3, r3, m3, b3, _⟩ := m2.app 35 _ (four nN) 4 4 rfl (HFG.out.below hbG2) (64 * i + 4 + 56 + 4) rfl (by omega) hbG2.size
              have HM3 := hid m3
              have HB3 := hid (hbG2.trans b3)
              have HR1 := hid r1
              have HR2 := hid r2
              have HR3 := hid r3
              have HPN : Hid (((O ++ four nN) ++ ((summed L).drop (i * 56)).take 56) ++ four nN ++ packs k (four nN) ((summed L).drop (56 * (i + 1))) = BY) := by
                show _ = _
                rw [← HPK.out, packs, List.drop_drop, show 56 * i + 56 = 56 * (i + 1) by omega, Nat.mul_comm i 56]
                simp only [List.append_assoc]
              clear hmid hml hd0 hbG0 hown0 r1 m1 b1 hbG1 r2 m2 b2 hbG2 r3 m3 b3
              have hw1 : IntKind.i64.wrap ((i : Int) * 56) = (i : Int) * 56 := by have := wrap_i64 (i * 56) (by omega); simpa using this
              have hw2 : IntKind.i64.wrap ((i : Int) + 1) = (i : Int) + 1 := by have := wrap_i64 (i + 1) (by omega); simpa using this
              have hw3 : IntKind.i64.wrap (((i : Int) + 1) * 56) = ((i : Int) + 1) * 56 := by have := wrap_i64 ((i + 1) * 56) (by omega); simpa using this
              go_wp2_with fail
              refine wp_region_held_drew (S := fun _ => True) (by kernel_rfl) trivial (fun hHeld => ?_)
              refine take_op 0 (some 95) (u8) rfl rfl (by kernel_rfl) (by kernel_rfl) (by kernel_rfl) (fun _ _ _ h => h) (by rfl) hHeld (fun W hW => ?_) ?_
              · clear hHeld
                go_simp
              simp only [Act.put, List.setIfInBounds_toArray, List.set_cons_zero, List.set_cons_succ]
              refine take_op 1 (some 96) (.slice (some ⟨yG, 0, none⟩) 4 4) rfl rfl (by kernel_rfl) (by kernel_rfl) (by kernel_rfl) (fun _ _ _ h => h) (by rfl) hHeld (fun W hW => ?_) ?_
              · clear hHeld
                go_simp
              simp only [Act.put, List.setIfInBounds_toArray, List.set_cons_zero, List.set_cons_succ]
              refine take_op 3 (some 98) (.slice (some ⟨gS, 0, none⟩) 224 cS) rfl rfl (by kernel_rfl) (by kernel_rfl) (by kernel_rfl) (fun _ _ _ h => h) (by rfl) hHeld (fun W hW => ?_) ?_
              · clear hHeld
                go_simp
              simp only [Act.put, List.setIfInBounds_toArray, List.set_cons_zero, List.set_cons_succ]
              refine take_op 4 (some 99) (.int .i64 (i : Int)) rfl rfl (by kernel_rfl) (by kernel_rfl) (by kernel_rfl) (fun _ _ _ h => h) (by rfl) hHeld (fun W hW => ?_) ?_
              · clear hHeld
                go_simp
              simp only [Act.put, List.setIfInBounds_toArray, List.set_cons_zero, List.set_cons_succ]
              refine take_op 5 (some 100) (.int .i64 ((i : Int) * 56)) rfl rfl (by kernel_rfl) (by kernel_rfl) (by kernel_rfl) (fun _ _ _ h => h) (by rfl) hHeld (fun W hW => ?_) ?_
              · clear hHeld
                go_simp
              simp only [Act.put, List.setIfInBounds_toArray, List.set_cons_zero, List.set_cons_succ]
              refine take_op 6 (some 101) (.int .i64 (i : Int)) rfl rfl (by kernel_rfl) (by kernel_rfl) (by kernel_rfl) (fun _ _ _ h => h) (by rfl) hHeld (fun W hW => ?_) ?_
              · clear hHeld
                go_simp
              simp only [Act.put, List.setIfInBounds_toArray, List.set_cons_zero, List.set_cons_succ]
              refine take_op 7 (some 102) (.int .i64 ((i : Int) + 1)) rfl rfl (by kernel_rfl) (by kernel_rfl) (by kernel_rfl) (fun _ _ _ h => h) (by rfl) hHeld (fun W hW => ?_) ?_
              · clear hHeld
                go_simp
              simp only [Act.put, List.setIfInBounds_toArray, List.set_cons_zero, List.set_cons_succ]
              refine take_op 8 (some 103) (.int .i64 (((i : Int) + 1) * 56)) rfl rfl (by kernel_rfl) (by kernel_rfl) (by kernel_rfl) (fun _ _ _ h => h) (by rfl) hHeld (fun W hW => ?_) ?_
              · clear hHeld
                go_simp
              simp only [Act.put, List.setIfInBounds_toArray, List.set_cons_zero, List.set_cons_succ]
              refine take_op 9 (some 104) (.slice aS 56 (cS - i * 56)) rfl rfl (by kernel_rfl) (by kernel_rfl) (by kernel_rfl) (fun _ _ _ h => h) (by rfl) hHeld (fun W hW => ?_) ?_
              · clear hHeld
                go_simp
              simp only [Act.put, List.setIfInBounds_toArray, List.set_cons_zero, List.set_cons_succ]
              refine take_op 11 (some 106) (.slice (some ⟨yG, 0, none⟩) 4 4) rfl rfl (by kernel_rfl) (by kernel_rfl) (by kernel_rfl) (fun _ _ _ h => h) (by rfl) hHeld (fun W hW => ?_) ?_
              · clear hHeld
                go_simp
              simp only [Act.put, List.setIfInBounds_toArray, List.set_cons_zero, List.set_cons_succ]
              refine wpAnyH_ready (rs := [2]) (by kernel_rfl) (by simp) (AllReadyH.cons rfl (fun K hK => ?_) AllReadyH.nil)
              refine step_app3 35 rfl _ _ rfl _ _ rfl rfl _ x1 HR1.out 97 rfl ?_
              refine hK.out _ _ trivial (fun hHeld => ?_)
              clear hK
              simp only [Act.put, List.setIfInBounds_toArray, List.set_cons_zero, List.set_cons_succ]
              refine wpAnyH_ready (rs := [10]) (by kernel_rfl) (by simp) (AllReadyH.cons rfl (fun K hK => ?_) AllReadyH.nil)
              refine step_app3 35 rfl _ _ rfl _ _ rfl rfl _ x2 HR2.out 105 rfl ?_
              refine hK.out _ _ trivial (fun hHeld => ?_)
              clear hK
              simp only [Act.put, List.setIfInBounds_toArray, List.set_cons_zero, List.set_cons_succ]
              refine wpAnyH_ready (rs := [12]) (by kernel_rfl) (by simp) (AllReadyH.cons rfl (fun K hK => ?_) AllReadyH.nil)
              refine step_app3 35 rfl _ _ rfl _ _ rfl rfl _ x3 HR3.out 107 rfl ?_
              refine hK.out _ _ trivial (fun hHeld => ?_)
              clear hK
              simp only [Act.put, List.setIfInBounds_toArray, List.set_cons_zero, List.set_cons_succ]
              refine take_op 13 (some 8) ((.slice (some ⟨g3', 0, none⟩) (64 * i + 4 + 56 + 4) p3)) rfl rfl (by kernel_rfl) (by kernel_rfl) (by kernel_rfl) (fun _ _ _ h => h) (by rfl) hHeld (fun W hW => ?_) ?_
              · clear hHeld
                go_simp
              simp only [Act.put, List.setIfInBounds_toArray, List.set_cons_zero, List.set_cons_succ]
              refine wpAnyH_done (by kernel_rfl) ?_ _
              clear HR1 HR2 HR3 hHeld hsl hw1 hw2 hw3
              go_wp2_with fail
              go_roundg k
              case measure => omega
              case rel =>
                refine ⟨i + 1, _, by omega, by go_num, ?_, HM3.out.2.1, ?_, HB3.out, HPN⟩
                · rw [HM3.out.1]; exact HM3.out.2.2
                · rw [HM3.out.1]; omega
            · have hii : ¬ (i : Int) < 4 := by omega
              obtain rfl : i = 4 := by omega
              obtain rfl : gk = 0 := by omega
              have hOB : O = BY := by have h := HPK.out; rwa [packs, List.append_nil] at h
              subst hOB
              obtain ⟨gE, cE, rfl, _, _⟩ := HOW.out.form (by rw [HOL.out.2]; decide)
              have hO256 : O.length = 256 := HOL.out.2
              obtain ⟨_, hrE⟩ := row_of_owns' rfl HOW.out HOL.out.1
              rw [hO256]
              have HRE := hid hrE
              have HBE := hid (HLW.out.trans (HBW.out.mono HLW.out.size))
              clear hrE hO256
              go_wp2_with fail
              go_ret
              exact ⟨gE, ⟨cE, rfl⟩, HRE.out, by rw [← HWQ.out]; exact HBE.out⟩
end Go.Proofs.Ytmfmhlhpleahpaa
