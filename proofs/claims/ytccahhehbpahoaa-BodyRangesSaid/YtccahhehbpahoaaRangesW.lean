/- BodyRanges, as it is walked: a range read in two parts is the range read at once. No condition. -/
import Derived.Test.YtccahhehbpahoaaLaw
import Derived.Test.YtccahhehbpahoaaCome
import Derived.Test.YtccahhehbpahoaaRMath
import Derived.Test.YtccahhehbpahoaaBoO
namespace Go.Proofs.Ytccahhehbpahoaa
open Go.ChangeShapes Go.WideShapes Go.ChangeAt Go.RowKit
set_option maxRecDepth 4000
set_option linter.unusedVariables false
set_option linter.unusedSimpArgs false
attribute [local go_sem ↓] Go.wp_at_zero Go.wp_at_succ
theorem CkAt.far2 {base : Nat} {w : World} {q n : Nat} {s : St} {y : Nat} (h : CkAt base w q n s) (hq : q ≠ y) (hy : y < base) (z v : Value) : CkAt base ((w.setCell ⟨y, 0, none⟩ z).setCell ⟨y, 1, none⟩ v) q n s := by
  refine h.kept ⟨by simp, fun k o hk hf _ => ?_⟩
  have hne : k ≠ y := by
    rcases hf with rfl | hf
    · exact hq
    · omega
  rw [Below.heap_setCell _ _ _ _ (by simpa using hne), Below.heap_setCell _ _ _ _ (by simpa using hne)]
  exact hk
theorem Bx.chg {q base : Nat} {w w' : World} {y : Nat} {z : Int} {v : Value} (h : Bx 29 w y z v) (hc : Chg q base w w') : Bx 29 w' y z v := hc.typ y _ 29 _ h (by decide) (by decide)
theorem POwn.chg {q base B : Nat} {w w' : World} {v : Value} {l : List Pt} (h : POwn 58 B w v l) (hc : Chg q base w w') : POwn 58 B w' v l := hc.owns h (by decide) (by decide)
theorem URow.below {w w' : World} {a : Option Addr} {l : List Int} (h : URow w a l) (hb : Below w.heap.size w w') : URow w' a l := by
  refine ⟨h.1, ?_⟩
  rcases h.2 with h2 | ⟨b, off, ha, hlt, hc⟩
  · exact .inl h2
  · exact .inr ⟨b, off, ha, Nat.lt_of_lt_of_le hlt hb.size, fun i hi => (hb.cell (p := ⟨b, off + i, none⟩) hlt).trans (hc i hi)⟩
theorem pown_says {B : Nat} {w : World} {a : Option Addr} {n c : Nat} {l : List Pt} (h : POwn 58 B w (.slice a n c) l) : PRow w a l ∧ (a = none → c = 0) := by
  obtain ⟨a', c', hv, _, _, h2, h3⟩ := h.row
  simp only [Value.slice.injEq] at hv
  obtain ⟨rfl, _, rfl⟩ := hv
  exact ⟨h2, h3⟩
theorem Grid.later {w : World} {a : Option Addr} {ls : List (List Nat)} (h : Grid w a ls) {i : Nat} (hi : i < ls.length) : ∃ b off, a = some ⟨b, off, none⟩ ∧ ∃ ai ci, ∀ W, Below w.heap.size w W → W.cell? ⟨b, off + i, none⟩ = some (.slice ai (ls.getD i []).length ci) ∧ Row W ai (ls.getD i []) := by
  rcases h with h | ⟨b, off, ha, hlt, hc⟩
  · rw [h] at hi; simp at hi
  · obtain ⟨ai, ci, h1, h2⟩ := hc i hi
    exact ⟨b, off, ha, ai, ci, fun W hW => ⟨(hW.cell (p := ⟨b, off + i, none⟩) hlt).trans h1, h2.below hW⟩⟩
theorem read_len {ps : Ps} {size : Int} {b : List Pt} (hb : mayB size b = true) (hf : ∀ p ∈ b, fitB ps p = true) {off k : Int} (h0 : 0 ≤ off) (h1 : 0 ≤ k) (h2 : k ≤ 4096) : (((readB ps size b off k).1.length : Nat) : Int) ≤ k := by
  rw [read_list hb hf h0 h1 h2]
  show (((if size ≤ off then [] else _) : List Nat).length : Int) ≤ k
  split
  · simpa using h1
  · unfold span
    simp only [List.length_map, List.length_range]
    omega
/-- What fits, fits behind a put. -/
theorem fit_put {s : St} (hok : Ok s.ps s.last) (t : List Nat) {p : Pt} (h : fitB s.ps p = true) : fitB (put s t).2.ps p = true := by
  by_cases hl : 1 ≤ t.length ∧ t.length ≤ 64
  · cases ht : byText s.ps t with
    | some n => rw [put_some hl ht]; exact h
    | none =>
      rw [put_none hl ht]
      have h1 := of_decide_eq_true h
      refine decide_eq_true ?_
      show p.pos + p.len ≤ (((byId (s.ps ++ [(s.last + 1, t)]) p.ch).getD []).length : Int)
      rw [byId_add hok.next]
      by_cases hc : p.ch = ((s.last + 1 : Nat) : Int)
      · rw [if_pos hc]
        unfold txt at h1
        rw [hc, hok.next] at h1
        simp only [Option.getD_none, Option.getD_some, List.length_nil] at h1 ⊢
        omega
      · rw [if_neg hc]
        exact h1
  · rw [put_not hl]; exact h
theorem fit_new {s : St} (hok : Ok s.ps s.last) (t : List Nat) (hl : 1 ≤ t.length ∧ t.length ≤ 64) : fitB (put s t).2.ps ⟨0, (t.length : Int), ((put s t).1.1 : Int), 0⟩ = true ∧ 1 ≤ (put s t).1.1 ∧ (put s t).1.1 ≤ s.last + 1 ∧ (put s t).2.last ≤ s.last + 1 := by
  cases ht : byText s.ps t with
  | some n =>
    rw [put_some hl ht]
    have hm := byText_some ht
    have := hok.pos _ hm
    refine ⟨decide_eq_true ?_, this.1, by have := this.2.1; show n ≤ _; simp only at this; omega, Nat.le_succ _⟩
    show (0 : Int) + (t.length : Int) ≤ (((byId s.ps (n : Int)).getD []).length : Int)
    have e := byId_mem hok.ids hm
    simp only at e
    rw [e]
    simp
  | none =>
    rw [put_none hl ht]
    refine ⟨decide_eq_true ?_, by simp, Nat.le_refl _, Nat.le_refl _⟩
    show (0 : Int) + (t.length : Int) ≤ (((byId (s.ps ++ [(s.last + 1, t)]) ((s.last + 1 : Nat) : Int)).getD []).length : Int)
    rw [byId_add hok.next, if_pos rfl]
    simp
set_option maxHeartbeats 2000000 in
theorem bodyRanges_walk {w : World} (a : Option Addr) (ls : List (List Nat)) (len cap : Nat) (hlen : ls.length = len) (hgr : Grid w a ls) (a2 : Option Addr) (us : List Int) (len2 cap2 : Nat) (hlen2 : us.length = len2) (hur : URow w a2 us) (z0 z1 z2 : Int) (hz00 : 0 ≤ z0) (hz01 : z0 < 65536) (hz10 : 0 ≤ z1) (hz11 : z1 < 65536) (hz20 : 0 ≤ z2) (hz21 : z2 < 65536) (h30 : len ≤ 30) (hle : len ≤ len2) :
    Calls Try.prog 8 #[.slice a len cap, .slice a2 len2 cap2, .agg #[.int .u16 z0, .int .u16 z1, .int .u16 z2]] w fun e w' => e = .returned (.bool true) ∧ Below w.heap.size w w' := by
  have g1 : ¬ (30 : Int) < (len : Int) := by omega
  have g2 : ¬ (len2 : Int) < (len : Int) := by omega
  have hb0 := (Below.refl w.heap.size w).alloc (Nat.le_refl _) (.cells #[.int .u16 z0, .int .u16 z1, .int .u16 z2] 65)
  have HO0 : Hid ((w.alloc (.cells #[.int .u16 z0, .int .u16 z1, .int .u16 z2] 65)).heap[w.heap.size]? = some (.cells #[.int .u16 z0, .int .u16 z1, .int .u16 z2] 65 (0, 0))) := heap_alloc_new w _
  have HB0 := hid hb0
  have HG := hid (hgr.below hb0)
  have HU := hid (hur.below hb0)
  have HL := hid hlen
  have HL2 := hid hlen2
  have HSZ : Hid (w.heap.size ≤ (w.alloc (.cells #[.int .u16 z0, .int .u16 z1, .int .u16 z2] 65)).heap.size) := hb0.size
  clear hb0 hgr hur hlen hlen2
  go_enter Try.func8, Try.ntmps8
  go_wp2_with fail
  generalize w.alloc (.cells #[.int .u16 z0, .int .u16 z1, .int .u16 z2] 65) = w0 at *
  obtain ⟨q, hq⟩ : ∃ q, w.heap.size = q := ⟨_, rfl⟩
  rw [hq] at HO0 ⊢
  clear hq
  refine (awake_any w0).mono ?_
  rintro e w1 ⟨rfl, hb1⟩
  have HB1 := hid hb1
  clear hb1
  go_wp2_with fail
  refine new_any.mono ?_
  rintro e w2 ⟨rfl, rfl⟩
  have hn2 := CkAt.new (w1.heap.size + 2) w1
  have hb2 := (Below.refl w1.heap.size w1).alloc (Nat.le_refl _) (.cells #[.map none, .map none, .int .i64 0] 81)
  have HB2 := hid hb2
  have HCK2 := hid hn2
  have HS2 : Hid ((w1.alloc (.cells #[.map none, .map none, .int .i64 0] 81)).heap.size = w1.heap.size + 1) := by show _ = _; simp
  clear hn2 hb2
  generalize w1.alloc (.cells #[.map none, .map none, .int .i64 0] 81) = w2 at *
  go_wp2_with fail
  have hal := (Below.refl w2.heap.size w2).alloc (Nat.le_refl _) (.cells #[.int .i64 0, .slice none 0 0] 29)
  have HY3 := hid (Bx.new 29 w2 0 (.slice none 0 0))
  have HCK3 := hid (HCK2.out.below hal)
  have HB3 := hid (HB2.out.trans (hal.mono HB2.out.size))
  have HS3 : Hid ((w2.alloc (.cells #[.int .i64 0, .slice none 0 0] 29)).heap.size = w1.heap.size + 2) := by show _ = _; rw [World.size_alloc, HS2.out]
  clear hal
  rw [HS2.out] at HY3 ⊢
  generalize w2.alloc (.cells #[.int .i64 0, .slice none 0 0] 29) = w3 at *
  obtain ⟨qc, hqc⟩ : ∃ qc, w1.heap.size = qc := ⟨_, rfl⟩
  have HQC := hid hqc
  rw [hqc] at HY3 HCK3 HS3 HB3 ⊢
  clear hqc HCK2 HS2 HB2
  go_loopg [9] len (fun gk v9 wr => ∃ i : Nat, i + gk = len ∧ v9 = .int .i64 (i : Int) ∧ ∃ (s : St) (z : Int) (a8 : Option Addr) (n8 c8 : Nat) (b : List Pt), Hid (CkAt (qc + 2) wr qc (2 * i) s) ∧ Hid (s.last ≤ i) ∧ Hid (Bx 29 wr (qc + 1) z (.slice a8 n8 c8)) ∧ Hid (POwn 58 (qc + 2) wr (.slice a8 n8 c8) b) ∧ Hid (b.length = n8) ∧ Hid (n8 ≤ 2 * i) ∧ Hid (mayB z b = true) ∧ Hid (∀ p ∈ b, fitB s.ps p = true) ∧ Hid (Below qc w1 wr) ∧ Hid (qc + 2 ≤ wr.heap.size))
  case atStart => exact ⟨0, by omega, rfl, ⟨[], 0⟩, 0, none, 0, 0, [], hid HCK3.out, hid (Nat.le_refl _), HY3, hid (POwn.nil _ _ _), hid rfl, hid (Nat.zero_le _), hid (by decide), hid (by simp), HB3, hid (by rw [HS3.out]; exact Nat.le_refl _)⟩
  case round =>
    obtain ⟨i, hik, rfl, s, z, a8, n8, c8, b, HCK, HLA, HBX, HPO, HNB, HN8, HMAY, HFIT, HBL, HSW⟩ := hrel
    by_cases hlt : i < len
    · have hg9 : (i : Int) < (len : Int) := by omega
      obtain ⟨gb, go, hga, ai, ci, hgl⟩ := HG.out.later (i := i) (by rw [HL.out]; exact hlt)
      obtain ⟨ub, uo, hua, hu0, hu1, huc⟩ := HU.out.later (i := i) (by rw [HL2.out]; omega)
      have huW := huc wr (HB1.out.trans ((show Below w1.heap.size w1 wr by rw [HQC.out]; exact HBL.out).mono HB1.out.size))
      obtain ⟨t, ht⟩ : ∃ t, ls.getD i [] = t := ⟨_, rfl⟩
      rw [ht] at hgl
      obtain ⟨u, hu⟩ : ∃ u, us.getD i 0 = u := ⟨_, rfl⟩
      rw [hu] at hu0 hu1 huc huW
      subst hga hua
      obtain ⟨m, hm⟩ : ∃ m, t.length = m := ⟨_, rfl⟩
      rw [hm] at hgl
      have HW0 : ∀ W, Below qc w1 W → Below w0.heap.size w0 W := fun W h => HB1.out.trans ((show Below w1.heap.size w1 W by rw [HQC.out]; exact h).mono HB1.out.size)
      have HW1 := hid HW0
      obtain ⟨hgc, hgr⟩ := hgl wr (HW1.out wr HBL.out)
      have HGR := hid hgr
      have HGC := hid hgl
      have HM := hid hm
      have HUC := hid huc
      clear hm ht hu hgr huc HW0 hgl
      by_cases hm1 : m < 1
      · have hm1' : (m : Int) < 1 := by omega
        go_wp2_with fail
        go_roundg (gk - 1)
        case measure => omega
        case rel => exact ⟨i + 1, by omega, by go_num, s, z, a8, n8, c8, b, hid (HCK.out.mono (by omega)), hid (Nat.le_succ_of_le HLA.out), HBX, HPO, HNB, hid (by have := HN8.out; omega), HMAY, HFIT, HBL, HSW⟩
      have hm1' : ¬ (m : Int) < 1 := by omega
      by_cases hm2 : 64 < m
      · have hm2' : (64 : Int) < (m : Int) := by omega
        go_wp2_with fail
        go_roundg (gk - 1)
        case measure => omega
        case rel => exact ⟨i + 1, by omega, by go_num, s, z, a8, n8, c8, b, hid (HCK.out.mono (by omega)), hid (Nat.le_succ_of_le HLA.out), HBX, HPO, HNB, hid (by have := HN8.out; omega), HMAY, HFIT, HBL, HSW⟩
      have hm2' : ¬ (64 : Int) < (m : Int) := by omega
      go_wp2_with fail
      have kp := put_any HCK.out ai t m ci HM.out HGR.out (by omega) (by have := HLA.out; omega) HSW.out
      have hfn := fit_new HCK.out.ok t (by rw [HM.out]; omega)
      have hfp := fun p hp => fit_put HCK.out.ok t (HFIT.out p hp)
      obtain ⟨⟨⟨id, fresh, e1⟩, s1⟩, hs1⟩ : ∃ r, put s t = r := ⟨_, rfl⟩
      rw [hs1] at kp hfn hfp
      rw [HM.out] at hfn
      obtain ⟨hf1, hf2, hf3, hf4⟩ := hfn
      simp only at hf1 hf2 hf3 hf4 hfp kp
      have HF1 := hid hf1
      have HFP := hid hfp
      have HLA1 : Hid (s1.last ≤ i + 1) := by have := HLA.out; show _ ≤ _; omega
      have hid1 : id ≤ i + 1 := by have := HLA.out; omega
      clear hf1 hf3 hf4 hfp hs1
      refine kp.mono ?_
      rintro e wp ⟨rfl, hck, hchg⟩
      have HCKP := hid hck
      have HCH := hid hchg
      have HBP := hid (HBL.out.trans (hchg.below (Nat.le_refl _) (by omega) (by have := HSW.out; omega)))
      have HBXP := hid (HBX.out.chg hchg)
      have HPOP := hid (HPO.out.chg hchg)
      have HSP : Hid (qc + 2 ≤ wp.heap.size) := Nat.le_trans HSW.out hchg.size
      clear hck hchg kp
      obtain ⟨x0, x1⟩ := HBXP.out.cells
      have huP := HUC.out wp (HW1.out wp HBP.out)
      have hgP := (HGC.out wp (HW1.out wp HBP.out)).1
      clear huW hgc
      go_wp2_with fail
      have hpc : [(⟨0, m, id, 0⟩ : Pt)].all pieceB = true := by
        rw [List.all_cons, (pieceB_iff ⟨0, m, id, 0⟩).2 ⟨by show (1 : Int) ≤ (m : Int); omega, by show (m : Int) ≤ 64; omega, by show (1 : Int) ≤ (id : Int); omega, by show (id : Int) ≤ _; omega, by show (0 : Int) ≤ 0; decide, by show (0 : Int) ≤ 64 - (m : Int); omega⟩]
        rfl
      have hle2 : lenP [(⟨0, m, id, 0⟩ : Pt)] = m := by show (m : Int) + 0 = m; omega
      have hwr := writeB_some (size := z) (b := b) ⟨HMAY.out, hpc⟩ (off := u) ⟨hu0, by rw [hle2]; omega⟩ (by simp)
      have hwok := writeB_ok (size := z) (b := b) (off := u) (l := [(⟨0, m, id, 0⟩ : Pt)]) (by rw [hwr])
      have hab := ab_len (off := u) (to := u + m) (mayB_iff.1 HMAY.out).2.2 (by omega)
      have hft : ∀ p ∈ ahead u b ++ (lay u [⟨0, m, id, 0⟩] ++ behind (u + m) b), fitB s1.ps p = true := by
        intro p hp
        rcases List.mem_append.1 hp with hp | hp
        · exact fit_ahead HFP.out u p hp
        · rcases List.mem_append.1 hp with hp | hp
          · exact fit_lay (by simpa using HF1.out) u p hp
          · exact fit_behind HFP.out _ p hp
      have hln : (ahead u b ++ (lay u [(⟨0, m, id, 0⟩ : Pt)] ++ behind (u + m) b)).length ≤ n8 + 2 := by
        rw [List.length_append, List.length_append, lay_len]
        rw [HNB.out] at hab
        simp only [List.length_cons, List.length_nil]
        omega
      rw [hle2] at hwr
      rw [hwr] at hwok
      obtain ⟨RP, hRP⟩ : ∃ l, ahead u b ++ (lay u [⟨0, m, id, 0⟩] ++ behind (u + m) b) = l := ⟨_, rfl⟩
      obtain ⟨RS, hRS⟩ : ∃ k, max z (u + m) = k := ⟨_, rfl⟩
      rw [hRP] at hwr hwok hft hln
      rw [hRS] at hwr hwok
      simp only at hwok
      obtain ⟨NR, hNR⟩ : ∃ k, RP.length = k := ⟨_, rfl⟩
      rw [hNR] at hln
      have HWR := hid hwr
      have HOK := hid hwok
      have HFT := hid hft
      have HLN := hid hln
      have HNR := hid hNR
      clear hpc hle2 hwr hwok hft hln hNR hRP hRS hab
      have hS : ∀ W, Below wp.heap.size wp W → ((W.cell? ⟨qc + 1, 0, none⟩ = some (.int .i64 z) ∧ W.cell? ⟨qc + 1, 1, none⟩ = some (.slice a8 n8 c8) ∧ W.cell? ⟨ub, uo + i, none⟩ = some (.int .u16 u) ∧ W.cell? ⟨gb, go + i, none⟩ = some (.slice ai m ci)) ∧ Below wp.heap.size wp W) := fun W hW => ⟨⟨(HBXP.out.below hW).cells.1, (HBXP.out.below hW).cells.2, HUC.out W (HW1.out W (HBP.out.trans (hW.mono (by have := HSP.out; omega)))), (HGC.out W (HW1.out W (HBP.out.trans (hW.mono (by have := HSP.out; omega))))).1⟩, hW⟩
      have hWr : ∀ (W : World) (a6 : Option Addr), ((W.cell? ⟨qc + 1, 0, none⟩ = some (.int .i64 z) ∧ W.cell? ⟨qc + 1, 1, none⟩ = some (.slice a8 n8 c8) ∧ W.cell? ⟨ub, uo + i, none⟩ = some (.int .u16 u) ∧ W.cell? ⟨gb, go + i, none⟩ = some (.slice ai m ci)) ∧ Below wp.heap.size wp W) → PRow W a6 [⟨0, m, id, 0⟩] → a6 ≠ none → Calls Try.prog 10 #[.agg #[.int .i64 z, .slice a8 n8 c8], .int .i64 u, .slice a6 1 1] W fun e w' => ∃ a7 c7, e = .returned (.tuple #[.agg #[.int .i64 RS, .slice a7 NR c7], .int .i64 0]) ∧ Hid (Below W.heap.size W w') ∧ Hid (POwn 58 W.heap.size w' (.slice a7 NR c7) RP) ∧ (∀ y k, y < W.heap.size → w'.cell? ⟨y, k, none⟩ = W.cell? ⟨y, k, none⟩) ∧ (∀ y k, y < W.heap.size → w'.frozen? ⟨y, k, none⟩ = W.frozen? ⟨y, k, none⟩) ∧ (∀ y, y < W.heap.size → y < w'.heap.size) ∧ ((w'.cell? ⟨qc + 1, 0, none⟩ = some (.int .i64 z) ∧ w'.cell? ⟨qc + 1, 1, none⟩ = some (.slice a8 n8 c8) ∧ w'.cell? ⟨ub, uo + i, none⟩ = some (.int .u16 u) ∧ w'.cell? ⟨gb, go + i, none⟩ = some (.slice ai m ci)) ∧ Below wp.heap.size wp w') := by
        intro W a6 hW h6 h7
        obtain ⟨q1, q2⟩ := pown_says HPOP.out
        refine (write_any z a8 b n8 c8 HNB.out q2 (q1.below hW.2) (by have := HN8.out; omega) u (by omega) (by omega) a6 [⟨0, m, id, 0⟩] 1 1 rfl (fun e => absurd e h7) h6 (by decide)).mono ?_
        rintro e w' ⟨hg, hb⟩
        rw [HWR.out] at hg
        obtain ⟨a7, c7, rfl, h7, _, _⟩ := hg.at_
        simp only [HNR.out] at h7 ⊢
        have hl := left_of hb
        exact ⟨a7, c7, rfl, hb, h7, hl.cell, hl.frozen, hl.size, hS _ (hW.2.trans (hb.mono hW.2.size))⟩
      have hK : ∀ (W : World) (o : Obj), ((W.cell? ⟨qc + 1, 0, none⟩ = some (.int .i64 z) ∧ W.cell? ⟨qc + 1, 1, none⟩ = some (.slice a8 n8 c8) ∧ W.cell? ⟨ub, uo + i, none⟩ = some (.int .u16 u) ∧ W.cell? ⟨gb, go + i, none⟩ = some (.slice ai m ci)) ∧ Below wp.heap.size wp W) → (((W.alloc o).cell? ⟨qc + 1, 0, none⟩ = some (.int .i64 z) ∧ (W.alloc o).cell? ⟨qc + 1, 1, none⟩ = some (.slice a8 n8 c8) ∧ (W.alloc o).cell? ⟨ub, uo + i, none⟩ = some (.int .u16 u) ∧ (W.alloc o).cell? ⟨gb, go + i, none⟩ = some (.slice ai m ci)) ∧ Below wp.heap.size wp (W.alloc o)) := fun W o h => hS _ (h.2.alloc h.2.size o)
      have hSet : ∀ (W : World) (y : Nat) (z' v : Value), wp.heap.size ≤ y → ((W.cell? ⟨qc + 1, 0, none⟩ = some (.int .i64 z) ∧ W.cell? ⟨qc + 1, 1, none⟩ = some (.slice a8 n8 c8) ∧ W.cell? ⟨ub, uo + i, none⟩ = some (.int .u16 u) ∧ W.cell? ⟨gb, go + i, none⟩ = some (.slice ai m ci)) ∧ Below wp.heap.size wp W) → ((((W.setCell ⟨y, 0, none⟩ z').setCell ⟨y, 1, none⟩ v).cell? ⟨qc + 1, 0, none⟩ = some (.int .i64 z) ∧ ((W.setCell ⟨y, 0, none⟩ z').setCell ⟨y, 1, none⟩ v).cell? ⟨qc + 1, 1, none⟩ = some (.slice a8 n8 c8) ∧ ((W.setCell ⟨y, 0, none⟩ z').setCell ⟨y, 1, none⟩ v).cell? ⟨ub, uo + i, none⟩ = some (.int .u16 u) ∧ ((W.setCell ⟨y, 0, none⟩ z').setCell ⟨y, 1, none⟩ v).cell? ⟨gb, go + i, none⟩ = some (.slice ai m ci)) ∧ Below wp.heap.size wp ((W.setCell ⟨y, 0, none⟩ z').setCell ⟨y, 1, none⟩ v)) := fun W y z' v hy h => hS _ ((h.2.setCell (by simpa using hy) _).setCell (by simpa using hy) _)
      have hs0' : (wp.drew.cell? ⟨qc + 1, 0, none⟩ = some (.int .i64 z) ∧ wp.drew.cell? ⟨qc + 1, 1, none⟩ = some (.slice a8 n8 c8) ∧ wp.drew.cell? ⟨ub, uo + i, none⟩ = some (.int .u16 u) ∧ wp.drew.cell? ⟨gb, go + i, none⟩ = some (.slice ai m ci)) ∧ Below wp.heap.size wp wp.drew := hS _ (Below.refl wp.heap.size wp).drew
      have hwo : IntKind.i64.wrap u = u := by obtain ⟨o9, rfl⟩ : ∃ k : Nat, u = (k : Int) := ⟨u.toNat, by omega⟩; exact wrap_i64 o9 (by omega)
      have hN0 : ∀ W : World, PRow (W.alloc (.cells #[.int .i64 0, .int .i64 m, .int .i64 id, .int .i64 0] 58)) (some ⟨W.heap.size, 0, none⟩) [⟨0, m, id, 0⟩] := fun W => prow_one (p := ⟨0, m, id, 0⟩) (heap_alloc_new W _)
      have hN1 : ∀ W : World, PRow (W.alloc (.cells #[.int .i64 0, .int .i64 m, .int .i64 id, .int .i64 0] 58)).drew (some ⟨W.heap.size, 0, none⟩) [⟨0, m, id, 0⟩] := fun W => (hN0 W).below (Below.refl _ _).drew
      have hN2 : ∀ W : World, PRow ((W.alloc (.cells #[.int .i64 0, .int .i64 m, .int .i64 id, .int .i64 0] 58)).alloc (.cells #[.int .i64 0, .slice none 0 0] 29)) (some ⟨W.heap.size, 0, none⟩) [⟨0, m, id, 0⟩] := fun W => (hN0 W).below ((Below.refl _ _).alloc (Nat.le_refl _) _)
      have hN3 : ∀ W : World, PRow ((W.alloc (.cells #[.int .i64 0, .int .i64 m, .int .i64 id, .int .i64 0] 58)).drew.alloc (.cells #[.int .i64 0, .slice none 0 0] 29)) (some ⟨W.heap.size, 0, none⟩) [⟨0, m, id, 0⟩] := fun W => (hN1 W).below ((Below.refl _ _).alloc (Nat.le_refl _) _)
      have hN4 : ∀ W : World, PRow ((W.alloc (.cells #[.int .i64 0, .int .i64 m, .int .i64 id, .int .i64 0] 58)).alloc (.cells #[.int .i64 0, .slice none 0 0] 29)).drew (some ⟨W.heap.size, 0, none⟩) [⟨0, m, id, 0⟩] := fun W => (hN2 W).below (Below.refl _ _).drew
      have hN5 : ∀ W : World, PRow (((W.alloc (.cells #[.int .i64 0, .slice none 0 0] 29)).alloc (.cells #[.int .i64 0, .int .i64 m, .int .i64 id, .int .i64 0] 58)).drew) (some ⟨W.heap.size + 1, 0, none⟩) [⟨0, m, id, 0⟩] := fun W => by
        have h := hN1 (W.alloc (.cells #[.int .i64 0, .slice none 0 0] 29))
        rw [World.size_alloc] at h
        exact h
      have hN6 : ∀ W : World, PRow (((W.alloc (.cells #[.int .i64 0, .slice none 0 0] 29)).drew.alloc (.cells #[.int .i64 0, .int .i64 m, .int .i64 id, .int .i64 0] 58))) (some ⟨W.heap.size + 1, 0, none⟩) [⟨0, m, id, 0⟩] := fun W => hN5 W
      have hB1 : ∀ (W : World) (o : Obj), (W.alloc o).drew.heap.size = W.heap.size + 1 := fun W o => World.size_alloc ..
      have hB2 : ∀ (W : World) (o o' : Obj), ((W.alloc o).alloc o').drew.heap.size = W.heap.size + 2 := fun W o o' => by
        show ((W.alloc o).alloc o').heap.size = _
        rw [World.size_alloc, World.size_alloc]
      clear x0 x1 huP hgP
      go_region_held (fun W => (W.cell? ⟨qc + 1, 0, none⟩ = some (.int .i64 z) ∧ W.cell? ⟨qc + 1, 1, none⟩ = some (.slice a8 n8 c8) ∧ W.cell? ⟨ub, uo + i, none⟩ = some (.int .u16 u) ∧ W.cell? ⟨gb, go + i, none⟩ = some (.slice ai m ci)) ∧ Below wp.heap.size wp W) (first | with_reducible assumption | exact hK _ _ (by with_reducible assumption) | exact hSet _ _ _ _ (Nat.le_refl _) (by with_reducible assumption) | exact hSet _ _ _ _ (Nat.le_succ _) (by with_reducible assumption)) (first
        | (go_at_call 10; refine (hWr _ _ ?_ ?_ (by simp)).mono ?_; with_reducible assumption; (with_reducible first | exact hN0 _ | exact hN1 _ | exact hN2 _ | exact hN3 _ | exact hN4 _ | exact hN5 _ | exact hN6 _); rintro e w7 ⟨a7, c7, rfl, HL7, H7, q1, q2, q3, hs7⟩))
      · have HY9 := hid (Bx.new 29 w7 RS (.slice a7 NR c7))
        have HB9 := hid (hs7.2.alloc hs7.2.size (.cells #[.int .i64 RS, .slice a7 NR c7] 29))
        have HO9 : Hid (POwn 58 (qc + 2) (w7.alloc (.cells #[.int .i64 RS, .slice a7 NR c7] 29)) (.slice a7 NR c7) RP) := (H7.out.below ((Below.refl _ _).alloc (Nat.le_refl _) _)).low (by rw [hB1]; have := HSP.out; omega)
        clear q1 q2 q3 hs7 hS hWr hK hSet hs0' HL7 H7 hN0 hN1 hN2 hN3 hN4 hN5 hN6 hB1 hB2
        generalize w7.alloc (.cells #[.int .i64 RS, .slice a7 NR c7] 29) = w9 at *
        generalize w7.heap.size = y9 at *
        obtain ⟨m0, m1⟩ := HY9.out.cells
        have hfz : ∀ k, w9.frozen? ⟨qc + 1, k, none⟩ = false := fun k => frozen_of_row w9 (qc + 1) k _ 29 (HBXP.out.below HB9.out)
        obtain ⟨x0, x1⟩ := (HBXP.out.below HB9.out).cells
        go_wp2_with fail
        go_roundg (gk - 1)
        case measure => omega
        case rel =>
          refine ⟨i + 1, by omega, by go_num, s1, RS, a7, NR, c7, RP, hid (((HCKP.out.below HB9.out).far2 (by omega) (by omega) _ _).mono (by omega)), HLA1, hid (Bx.set2 (HBXP.out.below HB9.out) _ _), hid (HO9.out.set2 (by omega) _ _), HNR, hid (by have := HLN.out; have := HN8.out; omega), HOK, HFT, hid (((HBP.out.trans (HB9.out.mono (by have := HSP.out; omega))).setCell (by simp) _).setCell (by simp) _), hid ?_⟩
          have h9 := HB9.out.size
          have h8 := HSP.out
          simp
          omega
      · have HY9 : Hid (Bx 29 ((w7.setCell ⟨wp.heap.size + 1, 0, none⟩ (.int .i64 RS)).setCell ⟨wp.heap.size + 1, 1, none⟩ (.slice a7 NR c7)) (wp.heap.size + 1) RS (.slice a7 NR c7)) := Bx.set2 (((show Bx 29 ((wp.alloc (.cells #[.int .i64 0, .int .i64 m, .int .i64 id, .int .i64 0] 58)).alloc (.cells #[.int .i64 0, .slice none 0 0] 29)).drew (wp.heap.size + 1) 0 (.slice none 0 0) from by have h := Bx.new 29 (wp.alloc (.cells #[.int .i64 0, .int .i64 m, .int .i64 id, .int .i64 0] 58)) 0 (.slice none 0 0); rw [World.size_alloc] at h; exact h)).below HL7.out) RS (.slice a7 NR c7)
        have HB9 := hid (hSet w7 (wp.heap.size + 1) (.int .i64 RS) (.slice a7 NR c7) (Nat.le_succ _) hs7).2
        have HO9 : Hid (POwn 58 (qc + 2) ((w7.setCell ⟨wp.heap.size + 1, 0, none⟩ (.int .i64 RS)).setCell ⟨wp.heap.size + 1, 1, none⟩ (.slice a7 NR c7)) (.slice a7 NR c7) RP) := (H7.out.set2 (r := wp.heap.size + 1) (by rw [hB2]; omega) (.int .i64 RS) (.slice a7 NR c7)).low (by rw [hB2]; have := HSP.out; omega)
        clear q1 q2 q3 hs7 hS hWr hK hSet hs0' HL7 H7 hN0 hN1 hN2 hN3 hN4 hN5 hN6 hB1 hB2
        generalize (w7.setCell ⟨wp.heap.size + 1, 0, none⟩ (.int .i64 RS)).setCell ⟨wp.heap.size + 1, 1, none⟩ (.slice a7 NR c7) = w9 at *
        obtain ⟨y9, hy9⟩ : ∃ y9, wp.heap.size + 1 = y9 := ⟨_, rfl⟩
        rw [hy9] at HY9 ⊢
        clear hy9
        obtain ⟨m0, m1⟩ := HY9.out.cells
        have hfz : ∀ k, w9.frozen? ⟨qc + 1, k, none⟩ = false := fun k => frozen_of_row w9 (qc + 1) k _ 29 (HBXP.out.below HB9.out)
        obtain ⟨x0, x1⟩ := (HBXP.out.below HB9.out).cells
        go_wp2_with fail
        go_roundg (gk - 1)
        case measure => omega
        case rel =>
          refine ⟨i + 1, by omega, by go_num, s1, RS, a7, NR, c7, RP, hid (((HCKP.out.below HB9.out).far2 (by omega) (by omega) _ _).mono (by omega)), HLA1, hid (Bx.set2 (HBXP.out.below HB9.out) _ _), hid (HO9.out.set2 (by omega) _ _), HNR, hid (by have := HLN.out; have := HN8.out; omega), HOK, HFT, hid (((HBP.out.trans (HB9.out.mono (by have := HSP.out; omega))).setCell (by simp) _).setCell (by simp) _), hid ?_⟩
          have h9 := HB9.out.size
          have h8 := HSP.out
          simp
          omega
      · have HY9 : Hid (Bx 29 ((w7.setCell ⟨wp.heap.size, 0, none⟩ (.int .i64 RS)).setCell ⟨wp.heap.size, 1, none⟩ (.slice a7 NR c7)) (wp.heap.size) RS (.slice a7 NR c7)) := Bx.set2 ((show Bx 29 ((wp.alloc (.cells #[.int .i64 0, .slice none 0 0] 29)).alloc (.cells #[.int .i64 0, .int .i64 m, .int .i64 id, .int .i64 0] 58)).drew wp.heap.size 0 (.slice none 0 0) from (Bx.new 29 wp 0 (.slice none 0 0)).below (((Below.refl (wp.alloc (.cells #[.int .i64 0, .slice none 0 0] 29)).heap.size (wp.alloc (.cells #[.int .i64 0, .slice none 0 0] 29))).alloc (Nat.le_refl _) (.cells #[.int .i64 0, .int .i64 m, .int .i64 id, .int .i64 0] 58)).drew)).below HL7.out) RS (.slice a7 NR c7)
        have HB9 := hid (hSet w7 (wp.heap.size) (.int .i64 RS) (.slice a7 NR c7) (Nat.le_refl _) hs7).2
        have HO9 : Hid (POwn 58 (qc + 2) ((w7.setCell ⟨wp.heap.size, 0, none⟩ (.int .i64 RS)).setCell ⟨wp.heap.size, 1, none⟩ (.slice a7 NR c7)) (.slice a7 NR c7) RP) := (H7.out.set2 (r := wp.heap.size) (by rw [hB2]; omega) (.int .i64 RS) (.slice a7 NR c7)).low (by rw [hB2]; have := HSP.out; omega)
        clear q1 q2 q3 hs7 hS hWr hK hSet hs0' HL7 H7 hN0 hN1 hN2 hN3 hN4 hN5 hN6 hB1 hB2
        generalize (w7.setCell ⟨wp.heap.size, 0, none⟩ (.int .i64 RS)).setCell ⟨wp.heap.size, 1, none⟩ (.slice a7 NR c7) = w9 at *
        obtain ⟨y9, hy9⟩ : ∃ y9, wp.heap.size = y9 := ⟨_, rfl⟩
        rw [hy9] at HY9 ⊢
        clear hy9
        obtain ⟨m0, m1⟩ := HY9.out.cells
        have hfz : ∀ k, w9.frozen? ⟨qc + 1, k, none⟩ = false := fun k => frozen_of_row w9 (qc + 1) k _ 29 (HBXP.out.below HB9.out)
        obtain ⟨x0, x1⟩ := (HBXP.out.below HB9.out).cells
        go_wp2_with fail
        go_roundg (gk - 1)
        case measure => omega
        case rel =>
          refine ⟨i + 1, by omega, by go_num, s1, RS, a7, NR, c7, RP, hid (((HCKP.out.below HB9.out).far2 (by omega) (by omega) _ _).mono (by omega)), HLA1, hid (Bx.set2 (HBXP.out.below HB9.out) _ _), hid (HO9.out.set2 (by omega) _ _), HNR, hid (by have := HLN.out; have := HN8.out; omega), HOK, HFT, hid (((HBP.out.trans (HB9.out.mono (by have := HSP.out; omega))).setCell (by simp) _).setCell (by simp) _), hid ?_⟩
          have h9 := HB9.out.size
          have h8 := HSP.out
          simp
          omega
      · have HY9 := hid (Bx.new 29 w7 RS (.slice a7 NR c7))
        have HB9 := hid (hs7.2.alloc hs7.2.size (.cells #[.int .i64 RS, .slice a7 NR c7] 29))
        have HO9 : Hid (POwn 58 (qc + 2) (w7.alloc (.cells #[.int .i64 RS, .slice a7 NR c7] 29)) (.slice a7 NR c7) RP) := (H7.out.below ((Below.refl _ _).alloc (Nat.le_refl _) _)).low (by rw [hB1]; have := HSP.out; omega)
        clear q1 q2 q3 hs7 hS hWr hK hSet hs0' HL7 H7 hN0 hN1 hN2 hN3 hN4 hN5 hN6 hB1 hB2
        generalize w7.alloc (.cells #[.int .i64 RS, .slice a7 NR c7] 29) = w9 at *
        generalize w7.heap.size = y9 at *
        obtain ⟨m0, m1⟩ := HY9.out.cells
        have hfz : ∀ k, w9.frozen? ⟨qc + 1, k, none⟩ = false := fun k => frozen_of_row w9 (qc + 1) k _ 29 (HBXP.out.below HB9.out)
        obtain ⟨x0, x1⟩ := (HBXP.out.below HB9.out).cells
        go_wp2_with fail
        go_roundg (gk - 1)
        case measure => omega
        case rel =>
          refine ⟨i + 1, by omega, by go_num, s1, RS, a7, NR, c7, RP, hid (((HCKP.out.below HB9.out).far2 (by omega) (by omega) _ _).mono (by omega)), HLA1, hid (Bx.set2 (HBXP.out.below HB9.out) _ _), hid (HO9.out.set2 (by omega) _ _), HNR, hid (by have := HLN.out; have := HN8.out; omega), HOK, HFT, hid (((HBP.out.trans (HB9.out.mono (by have := HSP.out; omega))).setCell (by simp) _).setCell (by simp) _), hid ?_⟩
          have h9 := HB9.out.size
          have h8 := HSP.out
          simp
          omega
      · have HY9 : Hid (Bx 29 ((w7.setCell ⟨wp.heap.size + 1, 0, none⟩ (.int .i64 RS)).setCell ⟨wp.heap.size + 1, 1, none⟩ (.slice a7 NR c7)) (wp.heap.size + 1) RS (.slice a7 NR c7)) := Bx.set2 (((show Bx 29 ((wp.alloc (.cells #[.int .i64 0, .int .i64 m, .int .i64 id, .int .i64 0] 58)).alloc (.cells #[.int .i64 0, .slice none 0 0] 29)).drew (wp.heap.size + 1) 0 (.slice none 0 0) from by have h := Bx.new 29 (wp.alloc (.cells #[.int .i64 0, .int .i64 m, .int .i64 id, .int .i64 0] 58)) 0 (.slice none 0 0); rw [World.size_alloc] at h; exact h)).below HL7.out) RS (.slice a7 NR c7)
        have HB9 := hid (hSet w7 (wp.heap.size + 1) (.int .i64 RS) (.slice a7 NR c7) (Nat.le_succ _) hs7).2
        have HO9 : Hid (POwn 58 (qc + 2) ((w7.setCell ⟨wp.heap.size + 1, 0, none⟩ (.int .i64 RS)).setCell ⟨wp.heap.size + 1, 1, none⟩ (.slice a7 NR c7)) (.slice a7 NR c7) RP) := (H7.out.set2 (r := wp.heap.size + 1) (by rw [hB2]; omega) (.int .i64 RS) (.slice a7 NR c7)).low (by rw [hB2]; have := HSP.out; omega)
        clear q1 q2 q3 hs7 hS hWr hK hSet hs0' HL7 H7 hN0 hN1 hN2 hN3 hN4 hN5 hN6 hB1 hB2
        generalize (w7.setCell ⟨wp.heap.size + 1, 0, none⟩ (.int .i64 RS)).setCell ⟨wp.heap.size + 1, 1, none⟩ (.slice a7 NR c7) = w9 at *
        obtain ⟨y9, hy9⟩ : ∃ y9, wp.heap.size + 1 = y9 := ⟨_, rfl⟩
        rw [hy9] at HY9 ⊢
        clear hy9
        obtain ⟨m0, m1⟩ := HY9.out.cells
        have hfz : ∀ k, w9.frozen? ⟨qc + 1, k, none⟩ = false := fun k => frozen_of_row w9 (qc + 1) k _ 29 (HBXP.out.below HB9.out)
        obtain ⟨x0, x1⟩ := (HBXP.out.below HB9.out).cells
        go_wp2_with fail
        go_roundg (gk - 1)
        case measure => omega
        case rel =>
          refine ⟨i + 1, by omega, by go_num, s1, RS, a7, NR, c7, RP, hid (((HCKP.out.below HB9.out).far2 (by omega) (by omega) _ _).mono (by omega)), HLA1, hid (Bx.set2 (HBXP.out.below HB9.out) _ _), hid (HO9.out.set2 (by omega) _ _), HNR, hid (by have := HLN.out; have := HN8.out; omega), HOK, HFT, hid (((HBP.out.trans (HB9.out.mono (by have := HSP.out; omega))).setCell (by simp) _).setCell (by simp) _), hid ?_⟩
          have h9 := HB9.out.size
          have h8 := HSP.out
          simp
          omega
      · have HY9 : Hid (Bx 29 ((w7.setCell ⟨wp.heap.size + 1, 0, none⟩ (.int .i64 RS)).setCell ⟨wp.heap.size + 1, 1, none⟩ (.slice a7 NR c7)) (wp.heap.size + 1) RS (.slice a7 NR c7)) := Bx.set2 (((show Bx 29 ((wp.alloc (.cells #[.int .i64 0, .int .i64 m, .int .i64 id, .int .i64 0] 58)).alloc (.cells #[.int .i64 0, .slice none 0 0] 29)).drew (wp.heap.size + 1) 0 (.slice none 0 0) from by have h := Bx.new 29 (wp.alloc (.cells #[.int .i64 0, .int .i64 m, .int .i64 id, .int .i64 0] 58)) 0 (.slice none 0 0); rw [World.size_alloc] at h; exact h)).below HL7.out) RS (.slice a7 NR c7)
        have HB9 := hid (hSet w7 (wp.heap.size + 1) (.int .i64 RS) (.slice a7 NR c7) (Nat.le_succ _) hs7).2
        have HO9 : Hid (POwn 58 (qc + 2) ((w7.setCell ⟨wp.heap.size + 1, 0, none⟩ (.int .i64 RS)).setCell ⟨wp.heap.size + 1, 1, none⟩ (.slice a7 NR c7)) (.slice a7 NR c7) RP) := (H7.out.set2 (r := wp.heap.size + 1) (by rw [hB2]; omega) (.int .i64 RS) (.slice a7 NR c7)).low (by rw [hB2]; have := HSP.out; omega)
        clear q1 q2 q3 hs7 hS hWr hK hSet hs0' HL7 H7 hN0 hN1 hN2 hN3 hN4 hN5 hN6 hB1 hB2
        generalize (w7.setCell ⟨wp.heap.size + 1, 0, none⟩ (.int .i64 RS)).setCell ⟨wp.heap.size + 1, 1, none⟩ (.slice a7 NR c7) = w9 at *
        obtain ⟨y9, hy9⟩ : ∃ y9, wp.heap.size + 1 = y9 := ⟨_, rfl⟩
        rw [hy9] at HY9 ⊢
        clear hy9
        obtain ⟨m0, m1⟩ := HY9.out.cells
        have hfz : ∀ k, w9.frozen? ⟨qc + 1, k, none⟩ = false := fun k => frozen_of_row w9 (qc + 1) k _ 29 (HBXP.out.below HB9.out)
        obtain ⟨x0, x1⟩ := (HBXP.out.below HB9.out).cells
        go_wp2_with fail
        go_roundg (gk - 1)
        case measure => omega
        case rel =>
          refine ⟨i + 1, by omega, by go_num, s1, RS, a7, NR, c7, RP, hid (((HCKP.out.below HB9.out).far2 (by omega) (by omega) _ _).mono (by omega)), HLA1, hid (Bx.set2 (HBXP.out.below HB9.out) _ _), hid (HO9.out.set2 (by omega) _ _), HNR, hid (by have := HLN.out; have := HN8.out; omega), HOK, HFT, hid (((HBP.out.trans (HB9.out.mono (by have := HSP.out; omega))).setCell (by simp) _).setCell (by simp) _), hid ?_⟩
          have h9 := HB9.out.size
          have h8 := HSP.out
          simp
          omega
      · have HY9 : Hid (Bx 29 ((w7.setCell ⟨wp.heap.size, 0, none⟩ (.int .i64 RS)).setCell ⟨wp.heap.size, 1, none⟩ (.slice a7 NR c7)) (wp.heap.size) RS (.slice a7 NR c7)) := Bx.set2 ((show Bx 29 ((wp.alloc (.cells #[.int .i64 0, .slice none 0 0] 29)).alloc (.cells #[.int .i64 0, .int .i64 m, .int .i64 id, .int .i64 0] 58)).drew wp.heap.size 0 (.slice none 0 0) from (Bx.new 29 wp 0 (.slice none 0 0)).below (((Below.refl (wp.alloc (.cells #[.int .i64 0, .slice none 0 0] 29)).heap.size (wp.alloc (.cells #[.int .i64 0, .slice none 0 0] 29))).alloc (Nat.le_refl _) (.cells #[.int .i64 0, .int .i64 m, .int .i64 id, .int .i64 0] 58)).drew)).below HL7.out) RS (.slice a7 NR c7)
        have HB9 := hid (hSet w7 (wp.heap.size) (.int .i64 RS) (.slice a7 NR c7) (Nat.le_refl _) hs7).2
        have HO9 : Hid (POwn 58 (qc + 2) ((w7.setCell ⟨wp.heap.size, 0, none⟩ (.int .i64 RS)).setCell ⟨wp.heap.size, 1, none⟩ (.slice a7 NR c7)) (.slice a7 NR c7) RP) := (H7.out.set2 (r := wp.heap.size) (by rw [hB2]; omega) (.int .i64 RS) (.slice a7 NR c7)).low (by rw [hB2]; have := HSP.out; omega)
        clear q1 q2 q3 hs7 hS hWr hK hSet hs0' HL7 H7 hN0 hN1 hN2 hN3 hN4 hN5 hN6 hB1 hB2
        generalize (w7.setCell ⟨wp.heap.size, 0, none⟩ (.int .i64 RS)).setCell ⟨wp.heap.size, 1, none⟩ (.slice a7 NR c7) = w9 at *
        obtain ⟨y9, hy9⟩ : ∃ y9, wp.heap.size = y9 := ⟨_, rfl⟩
        rw [hy9] at HY9 ⊢
        clear hy9
        obtain ⟨m0, m1⟩ := HY9.out.cells
        have hfz : ∀ k, w9.frozen? ⟨qc + 1, k, none⟩ = false := fun k => frozen_of_row w9 (qc + 1) k _ 29 (HBXP.out.below HB9.out)
        obtain ⟨x0, x1⟩ := (HBXP.out.below HB9.out).cells
        go_wp2_with fail
        go_roundg (gk - 1)
        case measure => omega
        case rel =>
          refine ⟨i + 1, by omega, by go_num, s1, RS, a7, NR, c7, RP, hid (((HCKP.out.below HB9.out).far2 (by omega) (by omega) _ _).mono (by omega)), HLA1, hid (Bx.set2 (HBXP.out.below HB9.out) _ _), hid (HO9.out.set2 (by omega) _ _), HNR, hid (by have := HLN.out; have := HN8.out; omega), HOK, HFT, hid (((HBP.out.trans (HB9.out.mono (by have := HSP.out; omega))).setCell (by simp) _).setCell (by simp) _), hid ?_⟩
          have h9 := HB9.out.size
          have h8 := HSP.out
          simp
          omega
      · have HY9 : Hid (Bx 29 ((w7.setCell ⟨wp.heap.size, 0, none⟩ (.int .i64 RS)).setCell ⟨wp.heap.size, 1, none⟩ (.slice a7 NR c7)) (wp.heap.size) RS (.slice a7 NR c7)) := Bx.set2 ((show Bx 29 ((wp.alloc (.cells #[.int .i64 0, .slice none 0 0] 29)).alloc (.cells #[.int .i64 0, .int .i64 m, .int .i64 id, .int .i64 0] 58)).drew wp.heap.size 0 (.slice none 0 0) from (Bx.new 29 wp 0 (.slice none 0 0)).below (((Below.refl (wp.alloc (.cells #[.int .i64 0, .slice none 0 0] 29)).heap.size (wp.alloc (.cells #[.int .i64 0, .slice none 0 0] 29))).alloc (Nat.le_refl _) (.cells #[.int .i64 0, .int .i64 m, .int .i64 id, .int .i64 0] 58)).drew)).below HL7.out) RS (.slice a7 NR c7)
        have HB9 := hid (hSet w7 (wp.heap.size) (.int .i64 RS) (.slice a7 NR c7) (Nat.le_refl _) hs7).2
        have HO9 : Hid (POwn 58 (qc + 2) ((w7.setCell ⟨wp.heap.size, 0, none⟩ (.int .i64 RS)).setCell ⟨wp.heap.size, 1, none⟩ (.slice a7 NR c7)) (.slice a7 NR c7) RP) := (H7.out.set2 (r := wp.heap.size) (by rw [hB2]; omega) (.int .i64 RS) (.slice a7 NR c7)).low (by rw [hB2]; have := HSP.out; omega)
        clear q1 q2 q3 hs7 hS hWr hK hSet hs0' HL7 H7 hN0 hN1 hN2 hN3 hN4 hN5 hN6 hB1 hB2
        generalize (w7.setCell ⟨wp.heap.size, 0, none⟩ (.int .i64 RS)).setCell ⟨wp.heap.size, 1, none⟩ (.slice a7 NR c7) = w9 at *
        obtain ⟨y9, hy9⟩ : ∃ y9, wp.heap.size = y9 := ⟨_, rfl⟩
        rw [hy9] at HY9 ⊢
        clear hy9
        obtain ⟨m0, m1⟩ := HY9.out.cells
        have hfz : ∀ k, w9.frozen? ⟨qc + 1, k, none⟩ = false := fun k => frozen_of_row w9 (qc + 1) k _ 29 (HBXP.out.below HB9.out)
        obtain ⟨x0, x1⟩ := (HBXP.out.below HB9.out).cells
        go_wp2_with fail
        go_roundg (gk - 1)
        case measure => omega
        case rel =>
          refine ⟨i + 1, by omega, by go_num, s1, RS, a7, NR, c7, RP, hid (((HCKP.out.below HB9.out).far2 (by omega) (by omega) _ _).mono (by omega)), HLA1, hid (Bx.set2 (HBXP.out.below HB9.out) _ _), hid (HO9.out.set2 (by omega) _ _), HNR, hid (by have := HLN.out; have := HN8.out; omega), HOK, HFT, hid (((HBP.out.trans (HB9.out.mono (by have := HSP.out; omega))).setCell (by simp) _).setCell (by simp) _), hid ?_⟩
          have h9 := HB9.out.size
          have h8 := HSP.out
          simp
          omega
    · have hg9 : ¬ (i : Int) < (len : Int) := by omega
      have HW2 : ∀ W, Below qc w1 W → Below w0.heap.size w0 W := fun W h => HB1.out.trans ((show Below w1.heap.size w1 W by rw [HQC.out]; exact h).mono HB1.out.size)
      go_wp2_with fail
      clear hg9
      have ho := ((HW2 : ∀ W, Below qc w1 W → Below w0.heap.size w0 W) wr HBL.out).block q (lt_of_some HO0.out) |>.trans HO0.out
      have n0 : wr.cell? ⟨q, 0, none⟩ = some (.int .u16 z0) := by rw [cell_of_row wr _ 0 _ 65 (0, 0) ho]; rfl
      have n1 : wr.cell? ⟨q, 1, none⟩ = some (.int .u16 z1) := by rw [cell_of_row wr _ 1 _ 65 (0, 0) ho]; rfl
      have n2 : wr.cell? ⟨q, 2, none⟩ = some (.int .u16 z2) := by rw [cell_of_row wr _ 2 _ 65 (0, 0) ho]; rfl
      have v0 : IntKind.i64.wrap z0 = z0 := by obtain ⟨o9, rfl⟩ : ∃ k : Nat, z0 = (k : Int) := ⟨z0.toNat, by omega⟩; exact wrap_i64 o9 (by omega)
      have v1 : IntKind.i64.wrap z1 = z1 := by obtain ⟨o9, rfl⟩ : ∃ k : Nat, z1 = (k : Int) := ⟨z1.toNat, by omega⟩; exact wrap_i64 o9 (by omega)
      have v2 : IntKind.i64.wrap z2 = z2 := by obtain ⟨o9, rfl⟩ : ∃ k : Nat, z2 = (k : Int) := ⟨z2.toNat, by omega⟩; exact wrap_i64 o9 (by omega)
      clear ho
      go_wp2_with fail
      go_quiet (fail)
      have hdq : Below wr.heap.size wr (wr.drewN nq) := ⟨(Below.refl wr.heap.size wr).os, (Below.refl wr.heap.size wr).tape, (Below.refl wr.heap.size wr).output, (Below.refl wr.heap.size wr).size, (Below.refl wr.heap.size wr).block⟩
      have HBXQ := hid (HBX.out.below hdq)
      have HCKQ := hid (HCK.out.below hdq)
      obtain ⟨q1, q2⟩ := pown_says (HPO.out.below hdq)
      have HPR := hid q1
      have HBLQ := hid (HBL.out.trans (hdq.mono (by have := HSW.out; omega)))
      have HSQ : Hid (qc + 2 ≤ (wr.drewN nq).heap.size) := Nat.le_trans HSW.out hdq.size
      have p0 : 0 ≤ z1 % 1000 := by omega
      have p1 : z1 % 1000 ≤ 999 := by omega
      have p2 : 0 ≤ z2 % 1000 := by omega
      have p3 : z2 % 1000 ≤ 999 := by omega
      clear hdq q1 q2 n0 n1 n2 v0 v1 v2 HBX HCK HPO HBL HSW HW2 HO0 HU HG hz10 hz11 hz20 hz21
      generalize wr.drewN nq = wq at *
      generalize z1 % 1000 = P at *
      generalize z2 % 1000 = Q at *
      obtain ⟨j0, j1, j2, j3⟩ := read_join (off := z0) (k := P) (m := Q) HMAY.out HFIT.out hz00 p0 (by omega) p2 (by omega)
      obtain ⟨R1, hR1⟩ : ∃ r, readB s.ps z b z0 P = r := ⟨_, rfl⟩
      obtain ⟨R2, hR2⟩ : ∃ r, readB s.ps z b (z0 + P) Q = r := ⟨_, rfl⟩
      obtain ⟨R3, hR3⟩ : ∃ r, readB s.ps z b z0 (P + Q) = r := ⟨_, rfl⟩
      rw [hR1, hR2, hR3] at j3
      rw [hR1] at j0
      rw [hR2] at j1
      rw [hR3] at j2
      have hq1 := read_len (off := z0) (k := P) HMAY.out HFIT.out hz00 p0 (by omega)
      have hq2 := read_len (off := z0 + P) (k := Q) HMAY.out HFIT.out (by omega) p2 (by omega)
      rw [hR1] at hq1
      rw [hR2] at hq2
      have HQ12 : Hid (¬ 9223372036854775807 < (strOf R1.1).size + (strOf R2.1).size) := by
        show ¬ _
        rw [strOf_size, strOf_size]
        omega
      have HR1 := hid hR1
      have HR2 := hid hR2
      have HR3 := hid hR3
      have HJ3 := hid j3
      have HJ0 := hid j0
      have HJ1 := hid j1
      have HJ2 := hid j2
      clear hR1 hR2 hR3 j0 j1 j2 j3 hq1 hq2
      have v3 : IntKind.i64.wrap (z0 + P) = z0 + P := by obtain ⟨o9, ho9⟩ : ∃ k : Nat, z0 + P = (k : Int) := ⟨(z0 + P).toNat, by omega⟩; rw [ho9]; exact wrap_i64 o9 (by omega)
      have v4 : IntKind.i64.wrap (P + Q) = P + Q := by obtain ⟨o9, ho9⟩ : ∃ k : Nat, P + Q = (k : Int) := ⟨(P + Q).toNat, by omega⟩; rw [ho9]; exact wrap_i64 o9 (by omega)
      obtain ⟨x0, x1⟩ := HBXQ.out.cells
      go_wp2_with fail
      have k1 := read_any HCKQ.out z a8 b n8 c8 HNB.out HPR.out (by have := HN8.out; omega) z0 P (by omega) (by omega) (by omega) (by omega)
      rw [HR1.out] at k1
      refine k1.mono ?_
      rintro e wa ⟨hga, hba⟩
      obtain ⟨va, rfl, hoa, hla⟩ := hga
      obtain ⟨ra, rca, hva, -, -, hrowa⟩ := row_of_owns hoa hla
      rw [HJ0.out]
      subst hva
      obtain ⟨na, hna⟩ : ∃ k, R1.1.length = k := ⟨_, rfl⟩
      have HNA := hid hna
      have HRA := hid hrowa
      have HBA := hid hba
      rw [hna]
      clear hba hoa hla hrowa k1 x0 x1 hna
      obtain ⟨x0, x1⟩ := (HBXQ.out.below HBA.out).cells
      go_wp2_with fail
      have k2 := read_any (HCKQ.out.below HBA.out) z a8 b n8 c8 HNB.out (HPR.out.below HBA.out) (by have := HN8.out; omega) (z0 + P) Q (by omega) (by omega) (by omega) (by omega)
      rw [HR2.out] at k2
      refine k2.mono ?_
      rintro e wb ⟨hgb, hbb⟩
      obtain ⟨vb, rfl, hob, hlb⟩ := hgb
      obtain ⟨rb, rcb, hvb, -, -, hrowb⟩ := row_of_owns hob hlb
      rw [HJ1.out]
      subst hvb
      obtain ⟨nb, hnb⟩ : ∃ k, R2.1.length = k := ⟨_, rfl⟩
      have HNB2 := hid hnb
      have HRB := hid hrowb
      have HRA2 := hid (HRA.out.below hbb)
      have HBB := hid (HBA.out.trans (hbb.mono HBA.out.size))
      rw [hnb]
      clear hbb hob hlb hrowb k2 x0 x1 hnb HRA
      obtain ⟨x0, x1⟩ := (HBXQ.out.below HBB.out).cells
      go_wp2_with fail
      have k3 := read_any (HCKQ.out.below HBB.out) z a8 b n8 c8 HNB.out (HPR.out.below HBB.out) (by have := HN8.out; omega) z0 (P + Q) (by omega) (by omega) (by omega) (by omega)
      rw [HR3.out] at k3
      refine k3.mono ?_
      rintro e wc ⟨hgc, hbc⟩
      obtain ⟨vc, rfl, hoc, hlc⟩ := hgc
      obtain ⟨rc, rcc, hvc, -, -, hrowc⟩ := row_of_owns hoc hlc
      rw [HJ2.out]
      subst hvc
      obtain ⟨nc, hnc⟩ : ∃ k, R3.1.length = k := ⟨_, rfl⟩
      have HRC := hid hrowc
      have HRB2 := hid (HRB.out.below hbc)
      have HRA3 := hid (HRA2.out.below hbc)
      have HBC := hid (HBB.out.trans (hbc.mono HBB.out.size))
      have HNC := hid hnc
      rw [hnc]
      clear hbc hoc hlc hrowc k3 x0 x1 hnc HRB HRA2
      have s1 := str_any wc ra R1.1 na rca HNA.out HRA3.out
      have s2 := str_any wc rb R2.1 nb rcb HNB2.out HRB2.out
      have s3 := str_any wc rc R3.1 nc rcc HNC.out HRC.out
      have hcat : strOf R1.1 ++ strOf R2.1 = strOf R3.1 := by rw [← strOf_app, HJ3.out]
      have hcs := HQ12.out
      go_wp2_with fail
      go_ret
      exact ⟨rfl, HB0.out.trans ((HB1.out.trans ((show Below w1.heap.size w1 wc by rw [HQC.out]; exact HBLQ.out.trans (HBC.out.mono (by have := HSQ.out; omega))).mono HB1.out.size)).mono HSZ.out)⟩
end Go.Proofs.Ytccahhehbpahoaa
