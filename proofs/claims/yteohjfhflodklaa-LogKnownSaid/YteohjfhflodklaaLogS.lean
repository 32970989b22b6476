/- What scan of log does. Condition: the disk has the segments and is not dead; a function that tells which boots fit. -/
import Derived.Test.YteohjfhflodklaaLogK
import Derived.WalkMore
namespace Go.Proofs.Yteohjfhflodklaa
open Go.RowKit Pen
open Crc (four nx run)
set_option maxRecDepth 4000
theorem islice_to' (w : World) (a : Option Addr) (n cap : Nat) (k : Nat) (hk : k ≤ cap) : (Instr.slice 33 (.slice a n cap) none (some (.int .i64 (k : Int))) none).run Try.prog w = .ok (.slice a k cap) w := islice_to w a n cap k hk
/-- How a scan stands: rs are found, from n' on m' sectors are left. -/
structure Scan (fits : Nat → Nat → Bool) (D : Nat → List Nat) (last lb n m : Nat) (rs : List (Nat × List Nat)) (k' last' lb' n' m' : Nat) : Prop where
  eq : scan fits D m last lb n m = rs ++ scan fits D k' last' lb' n' m'
  k : m' ≤ k'
  n : n' = n + lenOf rs
  m : m' + lenOf rs = m
  last : last' = lastOf last rs
  lb : lb' = bootOf lb rs
theorem Scan.start (fits : Nat → Nat → Bool) (D : Nat → List Nat) (last lb n m : Nat) : Scan fits D last lb n m [] m last lb n m := ⟨rfl, Nat.le_refl _, rfl, rfl, rfl, rfl⟩
theorem rd_len {last : Nat} {X r : List Nat} {b : Nat} (h : rd last X = some (r, b)) : 1 ≤ r.length ∧ r.length ≤ 16384 ∧ b < 2147483648 ∧ r.length + 16 ≤ X.length := by
  obtain ⟨h1, h2, h3, m, rfl⟩ := rd_iff.1 h
  exact ⟨h1, h2, h3, by rw [List.length_append, mk_len]; omega⟩
theorem Scan.next {fits : Nat → Nat → Bool} {D : Nat → List Nat} {last lb n m : Nat} {rs : List (Nat × List Nat)} {k' last' lb' n' m' : Nat} (h : Scan fits D last lb n m rs k' last' lb' n' m') {r : List Nat} {b : Nat} (hr : rd last' (txt D n' m') = some (r, b)) (hf : fits lb' b = true) (hw : Whole D n' m' r b) (hc : cnt (r.length + 16) ≤ m') :
    Scan fits D last lb n m (rs ++ [(b, r)]) (k' - 1) (nx last' r) b (n' + cnt (r.length + 16)) (m' - cnt (r.length + 16)) := by
  have hk := h.k
  have hp := cnt_pos r.length
  obtain ⟨k0, rfl⟩ : ∃ k0, k' = k0 + 1 := ⟨k' - 1, by omega⟩
  refine ⟨?_, by omega, by rw [h.n, lenOf_app, lenOf_one]; show n + lenOf rs + cnt (r.length + 16) = n + (lenOf rs + cnt (r.length + 16)); omega, by rw [lenOf_app, lenOf_one]; have := h.m; show m' - cnt (r.length + 16) + (lenOf rs + cnt (r.length + 16)) = m; omega, by rw [h.last, lastOf_app]; rfl, by rw [bootOf_app]; rfl⟩
  rw [h.eq, scan_yes k0 hr hf hw, List.append_assoc]
  rfl
/-- All stays but the log, and of it the row of its segments. -/
def ButG (g : Nat) (w w' : World) : Prop := But (fun k => k = g) w w' ∧ w'.cell? ⟨g, 1, none⟩ = w.cell? ⟨g, 1, none⟩
theorem ButG.trans {S : Nat → Prop} {g : Nat} {w w1 w2 : World} (h : ButG g w w1) (h1 : But S w1 w2) (ht : ∀ k, S k → k ≠ g ∧ w.heap.size ≤ k) (hg : g < w.heap.size) : ButG g w w2 :=
  ⟨h.1.trans h1 (fun k e => .inr (ht k e).2), (h1.cell g 1 (Nat.lt_of_lt_of_le hg h.1.size) (fun e => (ht g e).1 rfl)).trans h.2⟩
theorem ButG.below {g : Nat} {w w1 w2 : World} (h : ButG g w w1) (h1 : Below w1.heap.size w1 w2) (hg : g < w.heap.size) : ButG g w w2 := h.trans (below_but (fun _ => False) h1) (fun _ e => e.elim) hg
/-- What a scan leaves behind. -/
def Scanned (fits : Nat → Nat → Bool) (D : Nat → List Nat) (last lb n m : Nat) (g q : Nat) (segs : List Nat) (w w' : World) (v : Value) : Prop :=
  Recs (fun b => w.heap.size ≤ b) w.heap.size w' v ((scan fits D m last lb n m).map (·.2)) ∧ LogAt w' g q segs (n + lenOf (scan fits D m last lb n m)) (lastOf last (scan fits D m last lb n m)) (bootOf lb (scan fits D m last lb n m)) ∧ ButG g w w'
theorem Scan.ends {fits : Nat → Nat → Bool} {D : Nat → List Nat} {last lb n m : Nat} {rs : List (Nat × List Nat)} {k' last' lb' n' m' : Nat} (h : Scan fits D last lb n m rs k' last' lb' n' m') (h0 : scan fits D k' last' lb' n' m' = []) {g q : Nat} {segs : List Nat} {w w' : World} {v : Value}
    (h1 : Recs (fun b => w.heap.size ≤ b) w.heap.size w' v (rs.map (·.2))) (h2 : LogAt w' g q segs n' last' lb') (h3 : ButG g w w') : Scanned fits D last lb n m g q segs w w' v := by
  have e : scan fits D m last lb n m = rs := by rw [h.eq, h0, List.append_nil]
  unfold Scanned
  rw [e, ← h.n, ← h.last, ← h.lb]
  exact ⟨h1, h2, h3⟩
theorem set_c1 (w : World) (g : Nat) (a b c : Value) : (((w.setCell ⟨g, 2, none⟩ a).setCell ⟨g, 3, none⟩ b).setCell ⟨g, 4, none⟩ c).cell? ⟨g, 1, none⟩ = w.cell? ⟨g, 1, none⟩ := by
  have h : ∀ (W : World) (i : Nat) (v : Value), i ≠ 1 → (W.setCell ⟨g, i, none⟩ v).cell? ⟨g, 1, none⟩ = W.cell? ⟨g, 1, none⟩ := fun W i v hi => by
    apply World.cell?_setCell_other
    intro e; cases e; exact hi rfl
  rw [h _ 4 _ (by decide), h _ 3 _ (by decide), h _ 2 _ (by decide)]
theorem owns_tag {w : World} {base e n k : Nat} {v : Value} {xs : List Value} (h : w.ownsRow base e 1 v n xs) (hk : v.ownBlock = some k) : Tag w k e := by
  rcases h.2 with ⟨rfl, _⟩ | ⟨g', cap', cur, rfl, hb', hg', hc⟩
  · simp [Value.ownBlock] at hk
  · simp [Value.ownBlock] at hk
    subst hk
    exact ⟨_, hg'⟩
/-- Behind an append onto a row of slices of one's own. -/
theorem after_app {base lo n : Nat} {w w2 : World} {v : Value} {xs : List Value} (ho : w.ownsRow base 40 1 v n xs) (hg : w.grownBy w2 v.ownBlock) : But (fun k => v.ownBlock = some k) w w2 ∧ Past (fun k => v.ownBlock = some k) lo w 5 ∧ Past (fun k => v.ownBlock = some k) lo w 3 ∧ NoInts (fun k => v.ownBlock = some k) w :=
  ⟨grown_but _ hg (fun k e => e), fun k e => .inr ⟨40, owns_tag ho e, by decide⟩, fun k e => .inr ⟨40, owns_tag ho e, by decide⟩, noInts_of (fun k e => ⟨40, owns_tag ho e, by decide⟩)⟩
theorem cnt_le {n m : Nat} (h : n ≤ 54 * m) : cnt n ≤ m := by unfold cnt; omega
theorem cnt_ge (n : Nat) : n ≤ 54 * cnt n := by unfold cnt; omega
set_option maxRecDepth 20000 in
set_option maxHeartbeats 8000000 in
theorem scan_any {w : World} {g q p n last boot : Nat} {d : Dk} {segs : List Nat} (h : LogAt w g q segs n last boot) (hd : DiskAt w q p d) (hdead : d.dead = false) (hs : Has d segs) (e m : Nat) (he : e ≤ 8 * segs.length) (hm : m = e - n) (fits : Nat → Nat → Bool) (f : Nat) (fv : Array Value) (hcall : ∀ (args : Array Value) (W : World), (callFunc f args).run Try.prog W = .ok (.enter f args) W)
    (hf : ∀ (W : World) (n' last' lb b : Nat), LogAt W g q segs n' last' lb → But (fun k => k = g) w W → b < 2147483648 → Calls Try.prog f (#[.int .i64 (b : Int)] ++ fv) W fun r W' => r = .returned (.bool (fits lb b)) ∧ W' = W) :
    Calls Try.prog 37 #[.pointer (some ⟨g, 0, none⟩), .int .i64 (e : Int), .func (.func f) #[] fv] w fun r w' => ∃ v, r = .returned v ∧ Scanned fits (pl d segs) last boot n m g q segs w w' v := by
  have hlen := h.len
  have hnle := h.nle
  have hg := h.glt
  have H := hid h
  have HDI := hid hd
  have HDE := hid hdead
  have HS := hid hs
  have HF := hid hf
  have HPL : Hid (∀ i, i < 8 * segs.length → (pl d segs i).length = 64) := fun i hi => pl_len hd hs hi
  have HPT : Hid (∀ i, i < 8 * segs.length → ∀ x ∈ pl d segs i, x < 256) := fun i hi => pl_lt hd hs hi
  have hm1 : n + m = e ∨ (m = 0 ∧ e ≤ n) := by omega
  have HM := hid hm
  clear h hd hdead hs hf hm
  go_enter Try.func37, Try.ntmps37
  go_wp2_with fail
  go_step3
  go_wp2_with fail
  refine (look_any H.out HDI.out HDE.out HS.out e m he HM.out).mono ?_
  rintro r w1 ⟨va, vb, rfl, hoa, hob, hb1⟩
  obtain ⟨a7, c7, rfl, hc7, hr7⟩ := brow_of_owns hoa (txt_lt (fun i hi => HPT.out _ (by omega)))
  obtain ⟨a8, c8, rfl, hc8, hr8⟩ := jrow_of_owns hob
  have HTL : Hid ((txt (pl d segs) n m).length = 54 * m) := txt_len (fun j hj => HPL.out _ (by omega))
  rw [HTL.out] at hc7 ⊢
  rw [bts_len] at hc8 ⊢
  have HR7 := hid (And.intro hc7 hr7)
  have HR8 := hid (And.intro hc8 hr8)
  have HL1 := hid (H.out.below hb1)
  have HB1 : Hid (ButG g w w1) := ⟨below_but (fun k => k = g) hb1, hb1.cell (p := ⟨g, 1, none⟩) hg⟩
  have hsz1 := hb1.size
  clear hoa hob hc7 hr7 hc8 hr8 HTL hb1
  go_wp2_with fail
  go_step3
  go_wp2_with fail
  go_loopg [7, 8, 9] m (fun gk v7 v8 v9 wr => ∃ rs k' last' lb' n' a c a' c', Scan fits (pl d segs) last boot n m rs k' last' lb' n' gk ∧ v7 = .slice a (54 * gk) c ∧ 54 * gk ≤ c ∧ BRow w.heap.size wr a (txt (pl d segs) n' gk) ∧ v8 = .slice a' gk c' ∧ gk ≤ c' ∧ JRow w.heap.size wr a' (bts (pl d segs) n' gk) ∧ Recs (fun b => w.heap.size ≤ b) w.heap.size wr v9 (rs.map (·.2)) ∧ LogAt wr g q segs n' last' lb' ∧ ButG g w wr)
  case atStart => exact ⟨[], m, last, boot, n, a7, c7, a8, c8, Scan.start _ _ _ _ _ _, rfl, HR7.out.1, HR7.out.2, rfl, HR8.out.1, HR8.out.2, recs_nil _ _ _, HL1.out, HB1.out⟩
  case round =>
    obtain ⟨MM, rfl⟩ : ∃ MM, MM = gk := ⟨_, rfl⟩
    obtain ⟨rs, k', last', lb', n', a, c, a', c', hsc, rfl, hc7, hr7, rfl, hc8, hr8, hre, hL, hb⟩ := hrel
    clear HR7 HR8 HL1 HB1 hsz1
    obtain ⟨a9, c9, rfl⟩ := hre.slice
    have hc3 := hL.c3
    have hlt3 := hL.last
    have hcov : n' + MM = e ∨ MM = 0 := by have h1 := hsc.n; have h2 := hsc.m; omega
    have HTL : Hid ((txt (pl d segs) n' MM).length = 54 * MM) := txt_len (fun j hj => HPL.out _ (by omega))
    have HRN := hid (read_new last' a (txt (pl d segs) n' MM) (54 * MM) c wr hlt3 HTL.out hc7 hr7.1)
    have hrl : (rs.map (·.2)).length = rs.length := List.length_map ..
    rw [hrl] at hre ⊢
    clear hrl
    have HSC := hid hsc
    have HR7 := hid hr7
    have HR8 := hid hr8
    have HRE := hid hre
    have HL := hid hL
    have HB := hid hb
    clear hsc hr7 hr8 hre hL hb
    cases hrd : rd last' (txt (pl d segs) n' MM) with
    | none =>
      rw [hrd] at HRN
      have HRD := hid hrd
      clear hrd
      go_wp2_with fail
      refine HRN.out.mono ?_
      rintro r w2 ⟨rfl, hb2⟩
      have HBX := hid hb2
      clear hb2
      go_wp2_with fail
      try rw [Exit.noGoto_ret]
      go_ret
      exact ⟨_, rfl, HSC.out.ends (scan_none _ HRD.out) (HRE.out.below HBX.out) (HL.out.below HBX.out) (HB.out.below HBX.out hg)⟩
    | some rb =>
      obtain ⟨rr, b⟩ := rb
      rw [hrd] at HRN
      have HRD := hid hrd
      obtain ⟨hr1, hr2, hb31, hr3⟩ := rd_len hrd
      rw [HTL.out] at hr3
      clear hrd
      go_wp2_with fail
      refine HRN.out.mono ?_
      rintro r w2 ⟨⟨gR, nR, cR, rfl, hlR, hrowR, hgR, hcR⟩, hb2⟩
      have HCF := hid (HF.out w2 n' last' lb' b (HL.out.below hb2) (HB.out.below hb2 hg).1 hb31)
      have HROW := hid (And.intro hlR hrowR)
      have HBX := hid hb2
      have HVN : Hid ((Value.slice a9 rs.length c9).ownBlock ≠ some gR) := by
        intro e
        obtain ⟨xs, ho, _⟩ := HRE.out
        have := (owns_lt ho e).1
        omega
      have HNE : Hid (rr ≠ []) := by intro e; rw [e] at hr1; simp at hr1
      have HRS : Hid (rs.length ≤ 768) := by have h1 := len_le rs; have h2 := HSC.out.m; show _ ≤ _; omega
      clear HRN hlR hrowR hb2
      cases hfit : fits lb' b with
      | false =>
        rw [hfit] at HCF
        have HFI := hid hfit
        clear hfit
        go_wp2_with fail
        refine HCF.out.mono ?_
        rintro r w3 ⟨rfl, rfl⟩
        go_wp2_with fail
        try rw [Exit.noGoto_ret]
        go_ret
        exact ⟨_, rfl, HSC.out.ends (scan_no _ HRD.out (fun h => by rw [HFI.out] at h; cases h.1)) (HRE.out.below HBX.out) (HL.out.below HBX.out) (HB.out.below HBX.out hg)⟩
      | true =>
        rw [hfit] at HCF
        have HFI := hid hfit
        clear hfit
        go_wp2_with fail
        refine HCF.out.mono ?_
        rintro r w3 ⟨rfl, rfl⟩
        have hnR : nR = rr.length := HROW.out.1.symm
        have HK := hid (size_any (nR : Int) w3)
        rw [siz_yes (by omega), show (nR : Int) + 16 = ((nR + 16 : Nat) : Int) by omega] at HK
        have HCL : Hid (cnt (rr.length + 16) ≤ MM) := cnt_le hr3
        have HCG := hid (cnt_ge (rr.length + 16))
        have HCP := hid (cnt_pos rr.length)
        have HKC := hid (count54 w3 (nR + 16) (by omega))
        have HRD2 := HRD
        rw [← hnR] at HCL HCG HCP
        obtain ⟨S, hS⟩ : ∃ S, nR + 16 = S := ⟨_, rfl⟩
        rw [hS] at HK HCL HCG HCP HKC
        obtain ⟨C, hC⟩ : ∃ C, cnt S = C := ⟨_, rfl⟩
        rw [hC] at HCL HCG HCP HKC
        have HSS : Hid (S = rr.length + 16 ∧ C = cnt (rr.length + 16)) := ⟨by omega, by rw [← hC, ← hS, hnR]⟩
        have hx1 := HCL.out
        have hx2 := HCG.out
        have hx3 := HCP.out
        clear HCF hS hC hnR HCL HCG HCP hr1 hr2 hr3
        go_wp2_with fail
        refine HK.out.mono ?_
        rintro r w4 ⟨rfl, rfl⟩
        go_wp2_with fail
        refine HKC.out.mono ?_
        rintro r w5 ⟨rfl, rfl⟩
        have hsl1 := fun w => islice_to w a' MM c' C (by omega)
        clear HK HKC
        have HR8b := hid (HR8.out.below HBX.out)
        have HR7b := hid (HR7.out.below HBX.out)
        go_wp2_with fail
        go_loopg [54] C (fun gk v54 wj => ∃ i : Nat, i + gk = C ∧ v54 = .int .i64 (i : Int) ∧ (∀ j, j < i → sb (pl d segs (n' + j)) (n' + j) = (b : Int)) ∧ wj = w5)
        case atStart => exact ⟨0, by omega, rfl, fun j hj => by omega, rfl⟩
        case round =>
          obtain ⟨i, hi, rfl, hall, rfl⟩ := hrel
          have HA := hid hall
          clear hall
          by_cases hlt : i < C
          · have hlt' : (i : Int) < (C : Int) := by omega
            obtain ⟨b8, o8, ha8, _, hc8'⟩ := HR8b.out.1.cell (by intro e; have := bts_len (pl d segs) n' MM; rw [e] at this; simp at this; omega)
            have hci := hc8' i (by rw [bts_len]; omega)
            rw [bts_get _ _ _ _ (by omega)] at hci
            subst ha8
            generalize hz : sb (pl d segs (n' + i)) (n' + i) = z at *
            have HZ := hid hz
            clear hz hc8'
            by_cases hzb : z = (b : Int)
            · subst hzb
              have hbb : (((b : Int)) == (b : Int)) = true := by simp
              go_wp2_with fail
              go_roundg (gk - 1)
              case measure => omega
              case rel => exact ⟨i + 1, by omega, by go_num, fun j hj => by rcases Nat.lt_succ_iff_lt_or_eq.1 hj with h | rfl; exact HA.out j h; exact HZ.out, rfl⟩
            · have hbb : (z == (b : Int)) = false := by simp [hzb]
              have HZB := hid hzb
              clear hzb
              go_wp2_with fail
              try rw [Exit.noGoto_ret]
              go_ret
              exact ⟨_, rfl, HSC.out.ends (scan_no _ HRD.out (fun h => HZB.out (by rw [← HZ.out]; exact h.2.1 i (by rw [← HSS.out.2]; exact hlt)))) (HRE.out.below HBX.out) (HL.out.below HBX.out) (HB.out.below HBX.out hg)⟩
          · have hlt' : ¬ (i : Int) < (C : Int) := by omega
            obtain rfl : i = C := by omega
            clear hsl1
            have hsl2 := fun w => slice_mid w a (54 * MM) c S (54 * i) (by omega) (by omega)
            have e54 : IntKind.i64.wrap ((i : Int) * 54) = ((54 * i : Nat) : Int) := by
              rw [show (i : Int) * 54 = ((54 * i : Nat) : Int) by omega]
              exact wrap_i64 _ (by omega)
            have e54b : (i : Int) * 54 = ((54 * i : Nat) : Int) := by omega
            obtain ⟨T, hT⟩ : ∃ T, 54 * i = T := ⟨_, rfl⟩
            rw [hT] at hsl2 hx2 e54 e54b
            have HT := hid hT
            obtain ⟨N3, hN3⟩ : ∃ N3, T - S = N3 := ⟨_, rfl⟩
            rw [hN3] at hsl2
            have HR7d := hid (HR7b.out.drop S c (by rw [HTL.out]; exact hc7))
            have HTD : Hid ((txt (pl d segs) n' MM).drop S = (txt (pl d segs) n' MM).drop S) := rfl
            have hTle : T ≤ 54 * MM := by omega
            obtain ⟨a3, ha3⟩ : ∃ a3, fromA a S c = a3 := ⟨_, rfl⟩
            rw [ha3] at hsl2 HR7d
            clear hT
            go_wp2_with fail
            try rw [e54b]
            go_wp2_with fail
            go_loopg [68] N3 (fun gk v68 wj => ∃ j : Nat, j + gk = N3 ∧ v68 = .int .i64 (j : Int) ∧ (∀ l, l < j → (txt (pl d segs) n' MM).getD (S + l) 0 = 0) ∧ wj = wr)
            case atStart => exact ⟨0, by omega, rfl, fun j hj => by omega, rfl⟩
            case round =>
              obtain ⟨j, hj, rfl, hz, rfl⟩ := hrel
              have HZ := hid hz
              clear hz
              by_cases hjl : j < N3
              · have hjl' : (j : Int) < (N3 : Int) := by omega
                obtain ⟨b3, o3, hab3, _, hc3'⟩ := HR7d.out.1.2.resolve_left (by intro e; have := congrArg List.length e; rw [List.length_drop, HTL.out] at this; simp at this; omega)
                have hcj := hc3' j (by rw [List.length_drop, HTL.out]; omega)
                rw [getD_drop] at hcj
                subst hab3
                have hv8 : (txt (pl d segs) n' MM).getD (S + j) 0 < 256 := getD_lt (HR7b.out.1.1) _
                generalize hy : (txt (pl d segs) n' MM).getD (S + j) 0 = y at *
                have HY := hid hy
                clear hy hc3'
                by_cases hy0 : y = 0
                · subst hy0
                  go_wp2_with fail
                  go_roundg (gk - 1)
                  case measure => omega
                  case rel => exact ⟨j + 1, by omega, by go_num, fun l hl => by rcases Nat.lt_succ_iff_lt_or_eq.1 hl with h | rfl; exact HZ.out l h; exact HY.out, rfl⟩
                · have hyb : ((y : Int) == 0) = false := by simp [hy0]
                  have HY0 := hid hy0
                  clear hy0
                  go_wp2_with fail
                  try rw [Exit.noGoto_ret]
                  go_ret
                  exact ⟨_, rfl, HSC.out.ends (scan_no _ HRD.out (fun h => HY0.out (by rw [← HY.out]; exact h.2.2 (S + j) (by rw [← HSS.out.2, HT.out]; omega) (by rw [← HSS.out.1]; omega)))) (HRE.out.below HBX.out) (HL.out.below HBX.out) (HB.out.below HBX.out hg)⟩
              · have hjl' : ¬ (j : Int) < (N3 : Int) := by omega
                obtain rfl : j = N3 := by omega
                have hq1 := fun w => slice_from w a (54 * MM) c T (by omega)
                have hq2 := fun w => islice_from w a' MM c' i (by omega)
                have HR7e := hid (HR7b.out.drop T c (by rw [HTL.out]; exact hc7))
                have HR8e := hid (HR8b.out.drop i c' (by rw [bts_len]; exact hc8))
                rw [← HT.out, txt_drop (by omega) (fun j hj => HPL.out _ (by omega))] at HR7e
                rw [bts_drop _ _ _ _ (by omega)] at HR8e
                have e54c : 54 * MM - T = 54 * (MM - i) := by have := HT.out; omega
                have HCC : Hid (54 * (MM - i) ≤ c - T ∧ MM - i ≤ c' - i) := by constructor <;> omega
                rw [e54c] at hq1
                have HWH : Hid (Whole (pl d segs) n' MM rr b) := ⟨fun j hj => HA.out j (by rw [HSS.out.2]; exact hj), fun j hj hl => by
                  have := HZ.out (j - S) (by rw [← HSS.out.2, HT.out] at hj; rw [← HSS.out.1] at hl; omega)
                  rwa [show S + (j - S) = j by rw [← HSS.out.1] at hl; omega] at this⟩
                have HSN := hid (HSC.out.next HRD.out HFI.out HWH.out (by rw [← HSS.out.2]; omega))
                rw [← HSS.out.2] at HSN
                obtain ⟨aT, haT⟩ : ∃ aT, fromA a T c = aT := ⟨_, rfl⟩
                obtain ⟨aI, haI⟩ : ∃ aI, fromA a' i c' = aI := ⟨_, rfl⟩
                rw [HT.out] at HR7e
                rw [haT] at hq1 HR7e
                rw [haI] at hq2 HR8e
                obtain ⟨cT, hcT⟩ : ∃ cT, c - T = cT := ⟨_, rfl⟩
                obtain ⟨cI, hcI⟩ : ∃ cI, c' - i = cI := ⟨_, rfl⟩
                obtain ⟨M2, hM2⟩ : ∃ M2, MM - i = M2 := ⟨_, rfl⟩
                rw [hcT, hM2] at hq1
                rw [hcI, hM2] at hq2
                rw [hcT, hcI, hM2] at HCC
                rw [hM2] at HR7e HR8e HSN
                have HM2 := hid hM2
                clear hcT hcI haT haI hM2 hsl2 e54c
                go_wp2_with fail
                try rw [e54b]
                go_wp2_with fail
                go_quiet (fail)
                have hbq : Below wr.heap.size wr (wr.drewN nq) := ⟨rfl, rfl, rfl, Nat.le_refl _, fun _ _ => rfl⟩
                have hL6 := (HL.out.below HBX.out).below hbq
                have HB6 := hid ((HB.out.below HBX.out hg).below hbq hg)
                have HRE6 := hid ((HRE.out.below HBX.out).below hbq)
                have HROW6 := hid (HROW.out.2.below hbq)
                have HR76 := hid (HR7e.out.below hbq)
                have HR86 := hid (HR8e.out.below hbq)
                have hgR6 : w.heap.size ≤ gR := Nat.le_trans HB.out.1.size hgR
                have hs6 : g < (wr.drewN nq).heap.size := hL6.glt
                generalize wr.drewN nq = w6 at *
                have d2 := hL6.c2
                have d3 := hL6.c3
                have d4 := hL6.c4
                have f2 := hL6.fr 2
                have f3 := hL6.fr 3
                have f4 := hL6.fr 4
                have hn6 := hL6.nle
                have hn7 : n' + i ≤ 768 := by have h1 := hcov; have := HM2.out; omega
                obtain ⟨hL7, hB7⟩ := hL6.set (n' := n' + i) (last' := nx last' rr) (boot' := b) (Crc.nx_lt _ _) (by omega) hn7
                rw [show (((n' + i : Nat)) : Int) = (n' : Int) + (i : Int) by omega] at hL7 hB7
                have HL7 := hid hL7
                have hRE7 := HRE6.out.but hB7 (fun k e => by subst e; exact ⟨hg, by omega⟩)
                have hR77 := HR76.out.but hB7 (fun k e => .inl (by omega))
                have hR87 := HR86.out.but hB7 (fun k e => .inl (by omega))
                have hROW7 := HROW6.out.but hB7 (fun p e => by simp at e; subst e; simp only; omega)
                have HB7 := hid (show ButG g w _ from ⟨HB6.out.1.trans hB7 (fun k e => .inl e), Eq.trans (set_c1 w6 g _ _ _) HB6.out.2⟩)
                obtain ⟨xs, hox, hxx⟩ := hRE7
                have hal : ∀ W : World, Below W.heap.size W (W.alloc (.cells #[.slice (some ⟨gR, 0, none⟩) nR cR] 40)) := fun W => (Below.refl _ W).alloc (Nat.le_refl _) _
                have HO8 := hid (owns_below hox (hal _))
                rw [List.length_map] at HO8
                have HXX := hid hxx
                have HXL : Hid (xs.length = (rs.map (·.2)).length) := by have := hox.1; show _ = _; omega
                have HY8 : Hid (((((w6.setCell ⟨g, 2, none⟩ (.int .i64 ((n' : Int) + (i : Int)))).setCell ⟨g, 3, none⟩ (.int .u32 (nx last' rr : Nat))).setCell ⟨g, 4, none⟩ (.int .i64 (b : Int))).alloc (.cells #[.slice (some ⟨gR, 0, none⟩) nR cR] 40)).heap[w6.heap.size]? = some (.cells #[.slice (some ⟨gR, 0, none⟩) nR cR] 40 (0, 0))) := by
                  have h9 := heap_alloc_new (((w6.setCell ⟨g, 2, none⟩ (.int .i64 ((n' : Int) + (i : Int)))).setCell ⟨g, 3, none⟩ (.int .u32 (nx last' rr : Nat))).setCell ⟨g, 4, none⟩ (.int .i64 (b : Int))) (.cells #[.slice (some ⟨gR, 0, none⟩) nR cR] 40)
                  rwa [show (((w6.setCell ⟨g, 2, none⟩ (.int .i64 ((n' : Int) + (i : Int)))).setCell ⟨g, 3, none⟩ (.int .u32 (nx last' rr : Nat))).setCell ⟨g, 4, none⟩ (.int .i64 (b : Int))).heap.size = w6.heap.size by simp [World.setCell]] at h9
                have HR78 := hid (hR77.below (hal _))
                have HR88 := hid (hR87.below (hal _))
                have HL8 := hid (hL7.below (hal _))
                have HB8 := hid (HB7.out.below (hal _) hg)
                have HROW7 := hid hROW7
                have hbz : w.heap.size ≤ w6.heap.size := HB6.out.1.size
                have HLEN := hid (And.intro HROW.out.1 HSS.out.1)
                clear hL6 hL7 hbq hB7 HL HB HBX HRE HROW HR7e HR8e HR7 HR8 HR7b HR8b HR7d hq1 hq2 hox hxx hal hR77 hR87 hROW7 HB6 HRE6 HROW6 HR76 HR86 HB7
                have hrs := HRS.out
                go_wp2_with (at_builtin; refine wpList_app_one _ 22 40 rfl _ _ rfl 24 (.slice none 0 0) Try.underlying22 info40s rfl (by decide) w.heap.size (.slice a9 rs.length c9) rs.length xs rfl HO8.out w6.heap.size (.slice (some ⟨gR, 0, none⟩) nR cR) rfl HY8.out rfl (by omega) (by simp; omega) ?_; intro g9 cp9 w9 ho9 hg9 hat9; have HO9 := hid ho9; have HG9 := hid hg9; have HAT9 := hid hat9; clear ho9 hg9 hat9)
                go_roundg M2
                case measure => have := HM2.out; omega
                case rel =>
                  obtain ⟨hb9, hp5, hp3, hni⟩ := after_app (lo := w.heap.size) HO8.out HG9.out
                  have hgg : ¬ (Value.slice a9 rs.length c9).ownBlock = some g := fun e => by have := owns_block HO8.out _ e; omega
                  refine ⟨rs ++ [(b, rr)], k' - 1, nx last' rr, b, n' + i, aT, cT, aI, cI, HSN.out, rfl, HCC.out.1, HR78.out.but hb9 hp5, rfl, HCC.out.2, HR88.out.but hb9 hp3, ?_, HL8.out.but hb9 hni hgg, HB8.out.trans hb9 (fun k e => ⟨fun e2 => hgg (by rw [← e2]; exact e), owns_block HO8.out _ e⟩) hg⟩
                  rw [List.map_append]
                  have hfin := Recs.snoc (rs := rs.map (·.2)) xs HXX.out HXL.out HROW7.out HLEN.out.1 HNE.out hgR6 HVN.out (by rw [List.length_map]; exact HO9.out) HG9.out HAT9.out
                  rw [List.length_map] at hfin
                  exact hfin
end Go.Proofs.Yteohjfhflodklaa
