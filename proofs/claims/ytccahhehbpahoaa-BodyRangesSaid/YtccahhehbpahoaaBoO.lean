/- What Read of a body answers. Condition: at most a hundred thousand parts. -/
import Derived.Test.YtccahhehbpahoaaBoN
namespace Go.Proofs.Ytccahhehbpahoaa
open Go.ChangeShapes Go.WideShapes Go.ChangeAt Go.RowKit
set_option maxRecDepth 4000
set_option linter.unusedVariables false
attribute [local go_sem ↓] Go.wp_at_zero Go.wp_at_succ
/-- What is answered: a text, and the error's number. -/
def GaveT (B : Nat) (w' : World) (e : Ending) (r : List Nat × Nat) : Prop := ∃ v, e = .returned (.tuple #[v, .int .i64 (r.2 : Int)]) ∧ w'.ownsRow B 5 1 v r.1.length (vals r.1) ∧ ∀ x ∈ r.1, x < 256
theorem gave_none {B : Nat} {w' : World} {n : Nat} : GaveT B w' (.returned (.tuple #[.slice none 0 0, .int .i64 (n : Int)])) ([], n) := ⟨_, rfl, World.ownsRow_nil _ _ 5 1, by simp⟩
theorem all_get2 {l : List Pt} {P : Pt → Prop} (h : ∀ p ∈ l, P p) {i : Nat} (hi : i < l.length) : P (l.getD i pt0) := by
  refine h _ ?_
  rw [List.getD_eq_getElem?_getD, List.getElem?_eq_getElem hi]
  exact List.getElem_mem hi
set_option maxRecDepth 10000 in
set_option maxHeartbeats 8000000 in
theorem read_any {base : Nat} {w : World} {qc nn : Nat} {s : St} (hck : CkAt base w qc nn s) (size : Int) (a : Option Addr) (b : List Pt) (n cap : Nat) (hn : b.length = n) (hr : PRow w a b) (hm : n ≤ 100000) (off k : Int) (hw1 : -9223372036854775808 ≤ off) (hw2 : off < 9223372036854775808) (hw3 : -9223372036854775808 ≤ k) (hw4 : k < 9223372036854775808) :
    Calls Try.prog 23 #[.agg #[.int .i64 size, .slice a n cap], .pointer (some ⟨qc, 0, none⟩), .int .i64 off, .int .i64 k] w fun e w' => GaveT w.heap.size w' e (readB s.ps size b off k) ∧ Below w.heap.size w w' := by
  have hb1 := (Below.refl w.heap.size w).alloc (Nat.le_refl _) (.cells #[.int .i64 size, .slice a n cap] 29)
  have HB1 := hid hb1
  have HX := hid (heap_alloc_new w (.cells #[.int .i64 size, .slice a n cap] 29))
  have HR := hid (hr.below hb1)
  have HCK := hid (hck.below hb1)
  have HN := hid hn
  have hpe := fun w => eq_ptr w qc
  have hck0 := hck
  clear hb1 hr hck hn
  go_enter Try.func23, Try.ntmps23
  generalize hw1' : w.alloc (.cells #[.int .i64 size, .slice a n cap] 29) = w1 at HB1 HX HR HCK
  have HSZ : Hid (w.heap.size ≤ w1.heap.size) := HB1.out.size
  have x10 : w1.cell? ⟨w.heap.size, 0, none⟩ = some (.int .i64 size) := by rw [cell_of_row w1 _ 0 _ 29 (0, 0) HX.out]; rfl
  have x11 : w1.cell? ⟨w.heap.size, 1, none⟩ = some (.slice a n cap) := by rw [cell_of_row w1 _ 1 _ 29 (0, 0) HX.out]; rfl
  by_cases h0 : 0 ≤ off
  case neg =>
    have HE : Hid (readB s.ps size b off k = ([], 1)) := readB_arg (by omega)
    go_wp2_with fail
    go_ret2
    exact ⟨by rw [HE.out]; exact gave_none, HB1.out⟩
  by_cases h1 : 0 ≤ k
  case neg =>
    have HE : Hid (readB s.ps size b off k = ([], 1)) := readB_arg (by omega)
    go_wp2_with fail
    go_ret2
    exact ⟨by rw [HE.out]; exact gave_none, HB1.out⟩
  by_cases h2 : k ≤ 4096
  case neg =>
    have HE : Hid (readB s.ps size b off k = ([], 1)) := readB_arg (by omega)
    go_wp2_with fail
    go_ret2
    exact ⟨by rw [HE.out]; exact gave_none, HB1.out⟩
  go_wp2_with fail
  obtain ⟨q, hq⟩ : ∃ q, w.heap.size = q := ⟨_, rfl⟩
  rw [hq] at HX ⊢
  have HQ : Hid (w.heap.size ≤ q ∧ q < w1.heap.size) := ⟨by omega, lt_of_some HX.out⟩
  clear hq hw1' x10 x11
  refine (may_any16 size a b n cap HN.out HR.out (by omega)).mono ?_
  rintro e w2 ⟨rfl, hb2⟩
  have HB2 := hid hb2
  have hx2 := (hb2.block q (lt_of_some HX.out)).trans HX.out
  clear hb2
  cases hmay : mayB size b with
  | false =>
    have HE : Hid (readB s.ps size b off k = ([], 1)) := readB_arg (by rw [hmay]; simp)
    clear hmay hx2
    go_wp2_with fail
    go_ret2
    exact ⟨by rw [HE.out]; exact gave_none, HB1.out.trans (HB2.out.mono HSZ.out)⟩
  | true =>
  have HMAY := hid hmay
  obtain ⟨hsz0, hsz1, hok⟩ := mayB_iff.1 hmay
  have HOK := hid hok
  clear hmay hok
  have d0 : w2.cell? ⟨q, 0, none⟩ = some (.int .i64 size) := by rw [cell_of_row w2 q 0 _ 29 (0, 0) hx2]; rfl
  have d1 : w2.cell? ⟨q, 1, none⟩ = some (.slice a n cap) := by rw [cell_of_row w2 q 1 _ 29 (0, 0) hx2]; rfl
  by_cases h3 : size ≤ off
  · have HE : Hid (readB s.ps size b off k = ([], 0)) := readB_far ⟨h0, h1, h2, HMAY.out⟩ h3
    go_wp2_with fail
    go_ret2
    exact ⟨by rw [HE.out]; exact gave_none, HB1.out.trans (HB2.out.mono HSZ.out)⟩
  have HX2 := hid hx2
  clear hx2
  obtain ⟨to, hto⟩ : ∃ to, min (off + k) size = to := ⟨_, rfl⟩
  have HE0 := hid (readB_near (ps := s.ps) (k := k) ⟨h0, h1, h2, HMAY.out⟩ h3)
  rw [hto] at HE0
  have ht0 : off ≤ to := by omega
  have ht1 : to ≤ size := by omega
  have ht2 : to - off ≤ 4096 := by omega
  obtain ⟨N, hN⟩ : ∃ N : Nat, to - off = (N : Int) := ⟨(to - off).toNat, by omega⟩
  have hN2 : N ≤ 4096 := by omega
  have HNN : Hid ((to - off).toNat = N) := by show _ = _; omega
  rw [HNN.out] at HE0
  have HP := hid (read_parts HMAY.out h0 ht1)
  obtain ⟨Ps9, hPs⟩ : ∃ l, ahead to (behind off b) = l := ⟨_, rfl⟩
  rw [hPs] at HE0 HP
  have hmk := fun w => make_bytes N (by omega) w
  have hmin1 : (if size < off + k then size else off + k) = to := by rw [← hto]; omega
  have hmin2 : (if off + k ≤ size then off + k else size) = to := by rw [← hto]; omega
  have HTO := hid hto
  clear hto
  have HCK0 := hid hck0
  by_cases hms : size < off + k
  · obtain rfl : to = size := by rw [← HTO.out]; omega
    clear hmin1 hmin2
    have hbd1 := bd_of_ok HOK.out (Int.le_refl _) hsz1
    have hokb := behind_ok (off := off) HOK.out (Int.le_refl _)
    have hbd2 : Bd (behind off b) := bd_of_ok hokb (by omega) hsz1
    have hBl := behind_len off b
    have hPl := ahead_len to (behind off b)
    rw [hPs] at hPl
    rw [HN.out] at hBl
    have HBD1 := hid hbd1
    have HBD2 := hid hbd2
    obtain ⟨nB, hnB⟩ : ∃ m, (behind off b).length = m := ⟨_, rfl⟩
    obtain ⟨nP, hnP⟩ : ∃ m, Ps9.length = m := ⟨_, rfl⟩
    rw [hnB] at hBl hPl
    rw [hnP] at hPl
    have HNB := hid hnB
    have HNP := hid hnP
    have HPS := hid hPs
    clear hbd1 hokb hbd2 hnB hnP hPs
    have hba := (Below.refl w2.heap.size w2).alloc (Nat.le_refl _) (.cells (row8 (List.replicate N 0)) 5)
    have HT3 : Hid (Txt (w2.alloc (.cells (row8 (List.replicate N 0)) 5)) w2.heap.size N (List.replicate N 0)) := ⟨heap_alloc_new _ _, by simp, fun x hx => by rw [List.eq_of_mem_replicate hx]; decide⟩
    have HB3 := hid (HB2.out.trans (hba.mono HB2.out.size))
    have hx3 := (hba.block q (lt_of_some HX2.out)).trans HX2.out
    have x31 : (w2.alloc (.cells (row8 (List.replicate N 0)) 5)).cell? ⟨q, 1, none⟩ = some (.slice a n cap) := by rw [cell_of_row _ q 1 _ 29 (0, 0) hx3]; rfl
    have HG3 : Hid (w2.heap.size < (w2.alloc (.cells (row8 (List.replicate N 0)) 5)).heap.size) := by show _ < _; simp
    clear hba hx3
    go_wp2_with fail
    generalize w2.alloc (.cells (row8 (List.replicate N 0)) 5) = w3 at *
    obtain ⟨g, hg⟩ : ∃ g, w2.heap.size = g := ⟨_, rfl⟩
    rw [hg] at HT3 HG3 ⊢
    have HGW : Hid (w.heap.size ≤ g) := by have := HSZ.out; have := HB2.out.size; show _ ≤ _; omega
    clear hg
    refine (behind_any a b n cap HN.out (HR.out.below HB3.out) hm HBD1.out off h0 (by omega)).mono ?_
    rintro e w4 ⟨v4, rfl, ho4, hb4⟩
    obtain ⟨a4, c4, hv4, _, _, hrow4, _⟩ := ho4.row
    rw [HNB.out] at hv4
    subst hv4
    have HRW4 := hid hrow4
    have HB4 := hid (HB3.out.trans (hb4.mono HB3.out.size))
    have HT4 := hid (HT3.out.below hb4)
    have HG4 : Hid (g < w4.heap.size) := Nat.lt_of_lt_of_le HG3.out hb4.size
    clear ho4 hb4 hrow4 x31 d0 d1 HX2 HT3 HB3
    go_wp2_with fail
    refine (ahead_any a4 (behind off b) nB c4 HNB.out HRW4.out (by omega) HBD2.out to (by omega) (by omega)).mono ?_
    rintro e w5 ⟨v5, rfl, ho5, hb5⟩
    rw [HPS.out] at ho5
    obtain ⟨a5, c5, hv5, _⟩ := ho5.row
    rw [HNP.out] at hv5
    subst hv5
    have HO5 : Hid (POwn 58 (g + 1) w5 (.slice a5 nP c5) Ps9) := ho5.low HG4.out
    have HB5 := hid (HB4.out.trans (hb5.mono HB4.out.size))
    have HT5 := hid (HT4.out.below hb5)
    clear ho5 hb5 HRW4 HB4 HT4 HG4
    go_wp2_with fail
    go_loopg [56] nP (fun gk v56 wr => ∃ (i : Nat) (acc : List Nat), i + gk = nP ∧ v56 = .int .i64 (i : Int) ∧ Hid (Txt wr g N acc) ∧ Hid (POwn 58 (g + 1) wr (.slice a5 nP c5) Ps9) ∧ Hid (fillP s.ps off (Ps9.drop i) acc = fillP s.ps off Ps9 (List.replicate N 0)) ∧ Hid (Ps9.all (fitB s.ps) = (Ps9.drop i).all (fitB s.ps)) ∧ Hid (Below w.heap.size w wr ∧ w1.heap.size ≤ wr.heap.size))
    case atStart => exact ⟨0, _, by omega, rfl, HT5, HO5, hid rfl, hid rfl, hid ⟨HB1.out.trans (HB5.out.mono HSZ.out), HB5.out.size⟩⟩
    case round =>
      clear HT5 HO5 HB5
      obtain ⟨i, acc, hik, rfl, HT, HO, HF, HA, HB⟩ := hrel
      by_cases hlt : i < nP
      · have hg9 : (i : Int) < (nP : Int) := by omega
        obtain ⟨a8, c8, hv8, _, _, hrw8, _⟩ := HO.out.row
        rw [HNP.out] at hv8
        simp only [Value.slice.injEq, true_and] at hv8
        obtain ⟨rfl, rfl⟩ := hv8
        obtain ⟨b8, o8, rfl, hbl8, hpa⟩ := hrw8.part (i := i) (by rw [HNP.out]; exact hlt)
        have HD := hid (drop_cons (l := Ps9) (i := i) (by rw [HNP.out]; exact hlt))
        have hpp := all_get2 HP.out (i := i) (by rw [HNP.out]; exact hlt)
        obtain ⟨x, hx⟩ : ∃ x, Ps9.getD i pt0 = x := ⟨_, rfl⟩
        rw [hx] at hpa HD hpp
        obtain ⟨xo, xl, xc, xa⟩ := x
        obtain ⟨e0, e1, e2, e3⟩ := hpa
        obtain ⟨⟨p1, p2, p3, p4, p5, p6⟩, p7, p8⟩ := hpp
        simp only at e0 e1 e2 e3 p1 p2 p3 p4 p5 p6 p7 p8
        have hbp := (Below.refl wr.heap.size wr).alloc (Nat.le_refl _) (.cells #[.int .i64 xo, .int .i64 xl, .int .i64 xc, .int .i64 xa] 58)
        have HPB := hid (heap_alloc_new wr (.cells #[.int .i64 xo, .int .i64 xl, .int .i64 xc, .int .i64 xa] 58))
        have HTP := hid (HT.out.below hbp)
        have HOP := hid (HO.out.below hbp)
        have HBP : Hid (Below w.heap.size w (wr.alloc (.cells #[.int .i64 xo, .int .i64 xl, .int .i64 xc, .int .i64 xa] 58)) ∧ w1.heap.size ≤ (wr.alloc (.cells #[.int .i64 xo, .int .i64 xl, .int .i64 xc, .int .i64 xa] 58)).heap.size) := ⟨HB.out.1.trans (hbp.mono HB.out.1.size), Nat.le_trans HB.out.2 hbp.size⟩
        have HYG : Hid (g < wr.heap.size) := lt_of_some HT.out.cur
        clear hx hbl8 hrw8 hbp
        go_wp2_with fail
        generalize wr.alloc (.cells #[.int .i64 xo, .int .i64 xl, .int .i64 xc, .int .i64 xa] 58) = w6 at *
        generalize wr.heap.size = y at *
        have hck6 : CkAt base w6 qc nn s := HCK0.out.below HBP.out.1
        refine (get_any hck6 xc (i64_wf (by omega) (by omega))).mono ?_
        rintro e w7 ⟨v7, rfl, hgot, hb7⟩
        have hpb7 := (hb7.block y (lt_of_some HPB.out)).trans HPB.out
        have HPB7 := hid hpb7
        have HT7 := hid (HTP.out.below hb7)
        have HO7 := hid (HOP.out.below hb7)
        have HB7 : Hid (Below w.heap.size w w7 ∧ w1.heap.size ≤ w7.heap.size) := ⟨HBP.out.1.trans (hb7.mono HBP.out.1.size), Nat.le_trans HBP.out.2 hb7.size⟩
        have c70 : ∀ W, Below w7.heap.size w7 W → (W.cell? ⟨y, 0, none⟩ = some (.int .i64 xo) ∧ W.cell? ⟨y, 1, none⟩ = some (.int .i64 xl) ∧ W.cell? ⟨y, 3, none⟩ = some (.int .i64 xa)) := fun W hW => by
          have h := (hW.block y (lt_of_some hpb7)).trans hpb7
          exact ⟨by rw [cell_of_row W y 0 _ 58 (0, 0) h]; rfl, by rw [cell_of_row W y 1 _ 58 (0, 0) h]; rfl, by rw [cell_of_row W y 3 _ 58 (0, 0) h]; rfl⟩
        have HC7 := hid c70
        obtain ⟨f0, f1, f3⟩ := c70 w7 (Below.refl _ _)
        clear hb7 c70 e0 e1 e2 e3 hck6 HT HO HB HPB HTP HOP HBP
        cases hid9 : byId s.ps xc with
        | none =>
          rw [hid9] at hgot
          obtain rfl : v7 = .slice none 0 0 := hgot
          have HFN : Hid (readB s.ps to b off k = ([], 13)) := by
            show _ = _
            rw [HE0.out, if_neg]
            rw [HA.out, HD.out, List.all_cons]
            have : fitB s.ps ⟨xo, xl, xc, xa⟩ = false := by
              unfold fitB txt
              rw [hid9]
              simp
              omega
            rw [this]
            simp
          clear hid9 hpb7
          have hpos : (0 : Int) < xa + xl := by omega
          go_wp2_with fail
          go_ret2
          exact ⟨by rw [HFN.out]; exact gave_none, HB7.out.1⟩
        | some bt =>
          rw [hid9] at hgot
          obtain ⟨g7, c7, rfl, hown⟩ := hgot
          obtain ⟨id7, hid7, hmem⟩ := byId_some hid9
          have hbt := HCK0.out.ok.pos _ hmem
          obtain ⟨hcap7, hrow7⟩ := row_of_owns' rfl hown hbt.2.2.2.2
          obtain ⟨nb, hnb⟩ : ∃ m, bt.length = m := ⟨_, rfl⟩
          rw [hnb] at hcap7 ⊢
          have HNBT := hid hnb
          have HROW7 := hid hrow7
          have HTX : Hid (txt s.ps xc = bt) := by show _ = _; unfold txt; rw [hid9]; rfl
          have hnb64 : nb ≤ 64 := by rw [← hnb]; exact hbt.2.2.2.1
          have HBTL : Hid (∀ x ∈ bt, x < 256) := hbt.2.2.2.2
          clear hown hid7 hmem hbt hrow7 hnb hid9 hpb7
          by_cases hfit : xa + xl ≤ (nb : Int)
          case neg =>
            have HFN : Hid (readB s.ps to b off k = ([], 13)) := by
              show _ = _
              rw [HE0.out, if_neg]
              rw [HA.out, HD.out, List.all_cons]
              have : fitB s.ps ⟨xo, xl, xc, xa⟩ = false := by
                unfold fitB
                rw [HTX.out, HNBT.out]
                simp
                omega
              rw [this]
              simp
            go_wp2_with fail
            go_ret2
            exact ⟨by rw [HFN.out]; exact gave_none, HB7.out.1⟩
          obtain ⟨ko, hko⟩ : ∃ m : Nat, xo - off = (m : Int) := ⟨(xo - off).toNat, by omega⟩
          obtain ⟨pa, rfl⟩ : ∃ m : Nat, xa = (m : Int) := ⟨xa.toNat, by omega⟩
          obtain ⟨ln, rfl⟩ : ∃ m : Nat, xl = (m : Int) := ⟨xl.toNat, by omega⟩
          have hkN : ko + ln ≤ N := by omega
          obtain ⟨pe, hpe2⟩ : ∃ m : Nat, pa + ln = m := ⟨_, rfl⟩
          have hpl : (pa : Int) + (ln : Int) = (pe : Int) := by omega
          have hpnb : pe ≤ nb := by omega
          have hfl : ¬ (nb : Int) < (pe : Int) := by omega
          have HPE := hid hpe2
          have eA : fromA (some ⟨g, 0, none⟩) ko N = some ⟨g, ko, none⟩ := by unfold fromA; rw [if_neg (by omega)]; show some (Addr.add ⟨g, 0, none⟩ ko) = _; rw [Addr.add_mid, Nat.zero_add]
          have eB : fromA (some ⟨g7, 0, none⟩) pa c7 = some ⟨g7, pa, none⟩ := by unfold fromA; rw [if_neg (by omega)]; show some (Addr.add ⟨g7, 0, none⟩ pa) = _; rw [Addr.add_mid, Nat.zero_add]
          have wr1 : IntKind.i64.wrap (xo - off) = (ko : Int) := by rw [hko]; exact wrap_i64 ko (by omega)
          have wr2 : IntKind.i64.wrap ((pa : Int) + (ln : Int)) = (pe : Int) := by rw [hpl]; exact wrap_i64 pe (by omega)
          have wr3 : IntKind.i64.wrap (ko : Int) = (ko : Int) := wrap_i64 ko (by omega)
          have wr4 : IntKind.i64.wrap (pe : Int) = (pe : Int) := wrap_i64 pe (by omega)
          have hln1 : 1 ≤ ln := by omega
          have hsl1 : ∀ W, (Instr.slice 54 (.slice (some ⟨g, 0, none⟩) N N) (some (.int .i64 (ko : Int))) none none).run Try.prog W = .ok (.slice (some ⟨g, ko, none⟩) (N - ko) (N - ko)) W := fun W => by
            rw [slice_from W _ N N ko (by omega), eA]
          have hsl2 : ∀ W, (Instr.slice 54 (.slice (some ⟨g7, 0, none⟩) nb c7) (some (.int .i64 (pa : Int))) (some (.int .i64 (pe : Int))) none).run Try.prog W = .ok (.slice (some ⟨g7, pa, none⟩) ln (c7 - pa)) W := fun W => by
            rw [slice_mid W _ nb c7 pa pe (by omega) (by omega), eB, show pe - pa = ln by omega]
          have hsrow : Row w7.drew (some ⟨g7, pa, none⟩) ((bt.drop pa).take ln) := by
            have h := row_drop (HROW7.out.below (Below.refl w7.heap.size w7).drew) pa c7 (by rw [HNBT.out]; exact hcap7)
            rw [eB] at h
            exact row_take h ln
          have hslen : ((bt.drop pa).take ln).length = ln := by rw [List.length_take, List.length_drop, HNBT.out]; omega
          have hT7d := HT7.out.below (Below.refl w7.heap.size w7).drew
          have hcp := fun ty => run_copy_bytes w7.drew ty g ko (N - ko) (N - ko) (some ⟨g7, pa, none⟩) ln (c7 - pa) (vals acc) 5 hT7d.cur ((bt.drop pa).take ln) (by rw [hslen]; show ln = min ln (N - ko); omega) hsrow (by rw [hslen, vals_len, HT7.out.len]; exact hkN)
          rw [hslen] at hcp
          have hT8 := hT7d.put ko ((bt.drop pa).take ln) (fun x hx => HBTL.out x (List.mem_of_mem_drop (List.mem_of_mem_take hx))) (by rw [hslen]; exact hkN)
          have hOn : Only g none w7 (w7.drew.setRow g (splice (vals acc) ko (vals ((bt.drop pa).take ln))).toArray) := by
            have h := only_setRow (g := g) w7.drew (splice (vals acc) ko (vals ((bt.drop pa).take ln))).toArray
            exact ⟨h.os, h.tape, h.output, h.size, h.block⟩
          have HT8 := hid hT8
          have HO8 := hid (HO7.out.only hOn (Nat.lt_succ_self g))
          have HB8 : Hid (Below w.heap.size w (w7.drew.setRow g (splice (vals acc) ko (vals ((bt.drop pa).take ln))).toArray) ∧ w1.heap.size ≤ (w7.drew.setRow g (splice (vals acc) ko (vals ((bt.drop pa).take ln))).toArray).heap.size) := by
            refine ⟨below_setRow (HB7.out.1.drew) HGW.out _, ?_⟩
            rw [setRow_size]
            exact HB7.out.2
          have HF8 : Hid (fillP s.ps off (Ps9.drop (i + 1)) (splice acc ko ((bt.drop pa).take ln)) = fillP s.ps off Ps9 (List.replicate N 0)) := by
            show _ = _
            rw [← HF.out, HD.out]
            show _ = fillP s.ps off (Ps9.drop (i + 1)) (splice acc (xo - off).toNat (said s.ps ⟨xo, ln, xc, pa⟩))
            unfold said
            rw [HTX.out, hko]
            rfl
          have HA8 : Hid (Ps9.all (fitB s.ps) = (Ps9.drop (i + 1)).all (fitB s.ps)) := by
            show _ = _
            rw [HA.out, HD.out, List.all_cons]
            have : fitB s.ps ⟨xo, ln, xc, pa⟩ = true := by
              unfold fitB
              rw [HTX.out, HNBT.out]
              simp
              omega
            rw [this]
            rfl
          have HCP := hid hcp
          have hs0 := HC7.out w7.drew (Below.refl _ _).drew
          have hs9 : ∀ cs, (((w7.drew.setRow g cs).cell? ⟨y, 0, none⟩ = some (.int .i64 xo) ∧ (w7.drew.setRow g cs).cell? ⟨y, 1, none⟩ = some (.int .i64 (ln : Int)) ∧ (w7.drew.setRow g cs).cell? ⟨y, 3, none⟩ = some (.int .i64 (pa : Int)))) := fun cs => by
            have h : (w7.drew.setRow g cs).heap[y]? = some (.cells #[.int .i64 xo, .int .i64 (ln : Int), .int .i64 xc, .int .i64 (pa : Int)] 58 (0, 0)) := (setRow_other w7.drew g y cs (by have := HYG.out; omega)).trans HPB7.out
            exact ⟨by rw [cell_of_row _ y 0 _ 58 (0, 0) h]; rfl, by rw [cell_of_row _ y 1 _ 58 (0, 0) h]; rfl, by rw [cell_of_row _ y 3 _ 58 (0, 0) h]; rfl⟩
          have HS9 := hid hs9
          clear hsrow hslen hT7d hT8 hcp hOn eA eB hpe2 HO7 HB7 HF HA HT7 hs9
          go_wp2_with fail
          clear f0 f1 f3
          go_region_held_law (fun W => W.cell? ⟨y, 0, none⟩ = some (.int .i64 xo) ∧ W.cell? ⟨y, 1, none⟩ = some (.int .i64 (ln : Int)) ∧ W.cell? ⟨y, 3, none⟩ = some (.int .i64 (pa : Int))) (first | assumption | exact HS9.out _) (refine step_copy_region rfl _ _ rfl g ko (N - ko) (N - ko) (some ⟨g7, pa, none⟩) ln (c7 - pa) rfl rfl _ ln HCP.out ?_)
          clear hs0
          go_wp2_with fail
          go_roundg (gk - 1)
          case measure => omega
          case rel => exact ⟨i + 1, _, by omega, by go_num, HT8, HO8, HF8, HA8, HB8⟩
      · have hg9 : ¬ (i : Int) < (nP : Int) := by omega
        have HEE : Hid (readB s.ps to b off k = (acc, 0)) := by
          show _ = _
          rw [HE0.out, if_pos]
          · have h := HF.out
            rw [List.drop_of_length_le (by rw [HNP.out]; omega)] at h
            rw [← h]
            rfl
          · rw [HA.out, List.drop_of_length_le (by rw [HNP.out]; omega)]
            rfl
        go_wp2_with fail
        go_ret2
        refine ⟨?_, HB.out.1⟩
        rw [HEE.out]
        refine ⟨_, rfl, ?_, HT.out.lt⟩
        have h := HT.out.owns HGW.out (by omega)
        rw [HT.out.len]
        exact h
  · have hadd : off + k = to := by rw [← HTO.out]; omega
    have hms2 : off + k ≤ size := by omega
    clear hmin1 hmin2
    have hbd1 := bd_of_ok HOK.out (Int.le_refl _) hsz1
    have hokb := behind_ok (off := off) HOK.out (Int.le_refl _)
    have hbd2 : Bd (behind off b) := bd_of_ok hokb (by omega) hsz1
    have hBl := behind_len off b
    have hPl := ahead_len to (behind off b)
    rw [hPs] at hPl
    rw [HN.out] at hBl
    have HBD1 := hid hbd1
    have HBD2 := hid hbd2
    obtain ⟨nB, hnB⟩ : ∃ m, (behind off b).length = m := ⟨_, rfl⟩
    obtain ⟨nP, hnP⟩ : ∃ m, Ps9.length = m := ⟨_, rfl⟩
    rw [hnB] at hBl hPl
    rw [hnP] at hPl
    have HNB := hid hnB
    have HNP := hid hnP
    have HPS := hid hPs
    clear hbd1 hokb hbd2 hnB hnP hPs
    have hba := (Below.refl w2.heap.size w2).alloc (Nat.le_refl _) (.cells (row8 (List.replicate N 0)) 5)
    have HT3 : Hid (Txt (w2.alloc (.cells (row8 (List.replicate N 0)) 5)) w2.heap.size N (List.replicate N 0)) := ⟨heap_alloc_new _ _, by simp, fun x hx => by rw [List.eq_of_mem_replicate hx]; decide⟩
    have HB3 := hid (HB2.out.trans (hba.mono HB2.out.size))
    have hx3 := (hba.block q (lt_of_some HX2.out)).trans HX2.out
    have x31 : (w2.alloc (.cells (row8 (List.replicate N 0)) 5)).cell? ⟨q, 1, none⟩ = some (.slice a n cap) := by rw [cell_of_row _ q 1 _ 29 (0, 0) hx3]; rfl
    have HG3 : Hid (w2.heap.size < (w2.alloc (.cells (row8 (List.replicate N 0)) 5)).heap.size) := by show _ < _; simp
    clear hba hx3
    go_wp2_with fail
    generalize w2.alloc (.cells (row8 (List.replicate N 0)) 5) = w3 at *
    obtain ⟨g, hg⟩ : ∃ g, w2.heap.size = g := ⟨_, rfl⟩
    rw [hg] at HT3 HG3 ⊢
    have HGW : Hid (w.heap.size ≤ g) := by have := HSZ.out; have := HB2.out.size; show _ ≤ _; omega
    clear hg
    refine (behind_any a b n cap HN.out (HR.out.below HB3.out) hm HBD1.out off h0 (by omega)).mono ?_
    rintro e w4 ⟨v4, rfl, ho4, hb4⟩
    obtain ⟨a4, c4, hv4, _, _, hrow4, _⟩ := ho4.row
    rw [HNB.out] at hv4
    subst hv4
    have HRW4 := hid hrow4
    have HB4 := hid (HB3.out.trans (hb4.mono HB3.out.size))
    have HT4 := hid (HT3.out.below hb4)
    have HG4 : Hid (g < w4.heap.size) := Nat.lt_of_lt_of_le HG3.out hb4.size
    clear ho4 hb4 hrow4 x31 d0 d1 HX2 HT3 HB3
    go_wp2_with fail
    refine (ahead_any a4 (behind off b) nB c4 HNB.out HRW4.out (by omega) HBD2.out to (by omega) (by omega)).mono ?_
    rintro e w5 ⟨v5, rfl, ho5, hb5⟩
    rw [HPS.out] at ho5
    obtain ⟨a5, c5, hv5, _⟩ := ho5.row
    rw [HNP.out] at hv5
    subst hv5
    have HO5 : Hid (POwn 58 (g + 1) w5 (.slice a5 nP c5) Ps9) := ho5.low HG4.out
    have HB5 := hid (HB4.out.trans (hb5.mono HB4.out.size))
    have HT5 := hid (HT4.out.below hb5)
    clear ho5 hb5 HRW4 HB4 HT4 HG4
    go_wp2_with fail
    go_loopg [56] nP (fun gk v56 wr => ∃ (i : Nat) (acc : List Nat), i + gk = nP ∧ v56 = .int .i64 (i : Int) ∧ Hid (Txt wr g N acc) ∧ Hid (POwn 58 (g + 1) wr (.slice a5 nP c5) Ps9) ∧ Hid (fillP s.ps off (Ps9.drop i) acc = fillP s.ps off Ps9 (List.replicate N 0)) ∧ Hid (Ps9.all (fitB s.ps) = (Ps9.drop i).all (fitB s.ps)) ∧ Hid (Below w.heap.size w wr ∧ w1.heap.size ≤ wr.heap.size))
    case atStart => exact ⟨0, _, by omega, rfl, HT5, HO5, hid rfl, hid rfl, hid ⟨HB1.out.trans (HB5.out.mono HSZ.out), HB5.out.size⟩⟩
    case round =>
      clear HT5 HO5 HB5
      obtain ⟨i, acc, hik, rfl, HT, HO, HF, HA, HB⟩ := hrel
      by_cases hlt : i < nP
      · have hg9 : (i : Int) < (nP : Int) := by omega
        obtain ⟨a8, c8, hv8, _, _, hrw8, _⟩ := HO.out.row
        rw [HNP.out] at hv8
        simp only [Value.slice.injEq, true_and] at hv8
        obtain ⟨rfl, rfl⟩ := hv8
        obtain ⟨b8, o8, rfl, hbl8, hpa⟩ := hrw8.part (i := i) (by rw [HNP.out]; exact hlt)
        have HD := hid (drop_cons (l := Ps9) (i := i) (by rw [HNP.out]; exact hlt))
        have hpp := all_get2 HP.out (i := i) (by rw [HNP.out]; exact hlt)
        obtain ⟨x, hx⟩ : ∃ x, Ps9.getD i pt0 = x := ⟨_, rfl⟩
        rw [hx] at hpa HD hpp
        obtain ⟨xo, xl, xc, xa⟩ := x
        obtain ⟨e0, e1, e2, e3⟩ := hpa
        obtain ⟨⟨p1, p2, p3, p4, p5, p6⟩, p7, p8⟩ := hpp
        simp only at e0 e1 e2 e3 p1 p2 p3 p4 p5 p6 p7 p8
        have hbp := (Below.refl wr.heap.size wr).alloc (Nat.le_refl _) (.cells #[.int .i64 xo, .int .i64 xl, .int .i64 xc, .int .i64 xa] 58)
        have HPB := hid (heap_alloc_new wr (.cells #[.int .i64 xo, .int .i64 xl, .int .i64 xc, .int .i64 xa] 58))
        have HTP := hid (HT.out.below hbp)
        have HOP := hid (HO.out.below hbp)
        have HBP : Hid (Below w.heap.size w (wr.alloc (.cells #[.int .i64 xo, .int .i64 xl, .int .i64 xc, .int .i64 xa] 58)) ∧ w1.heap.size ≤ (wr.alloc (.cells #[.int .i64 xo, .int .i64 xl, .int .i64 xc, .int .i64 xa] 58)).heap.size) := ⟨HB.out.1.trans (hbp.mono HB.out.1.size), Nat.le_trans HB.out.2 hbp.size⟩
        have HYG : Hid (g < wr.heap.size) := lt_of_some HT.out.cur
        clear hx hbl8 hrw8 hbp
        go_wp2_with fail
        generalize wr.alloc (.cells #[.int .i64 xo, .int .i64 xl, .int .i64 xc, .int .i64 xa] 58) = w6 at *
        generalize wr.heap.size = y at *
        have hck6 : CkAt base w6 qc nn s := HCK0.out.below HBP.out.1
        refine (get_any hck6 xc (i64_wf (by omega) (by omega))).mono ?_
        rintro e w7 ⟨v7, rfl, hgot, hb7⟩
        have hpb7 := (hb7.block y (lt_of_some HPB.out)).trans HPB.out
        have HPB7 := hid hpb7
        have HT7 := hid (HTP.out.below hb7)
        have HO7 := hid (HOP.out.below hb7)
        have HB7 : Hid (Below w.heap.size w w7 ∧ w1.heap.size ≤ w7.heap.size) := ⟨HBP.out.1.trans (hb7.mono HBP.out.1.size), Nat.le_trans HBP.out.2 hb7.size⟩
        have c70 : ∀ W, Below w7.heap.size w7 W → (W.cell? ⟨y, 0, none⟩ = some (.int .i64 xo) ∧ W.cell? ⟨y, 1, none⟩ = some (.int .i64 xl) ∧ W.cell? ⟨y, 3, none⟩ = some (.int .i64 xa)) := fun W hW => by
          have h := (hW.block y (lt_of_some hpb7)).trans hpb7
          exact ⟨by rw [cell_of_row W y 0 _ 58 (0, 0) h]; rfl, by rw [cell_of_row W y 1 _ 58 (0, 0) h]; rfl, by rw [cell_of_row W y 3 _ 58 (0, 0) h]; rfl⟩
        have HC7 := hid c70
        obtain ⟨f0, f1, f3⟩ := c70 w7 (Below.refl _ _)
        clear hb7 c70 e0 e1 e2 e3 hck6 HT HO HB HPB HTP HOP HBP
        cases hid9 : byId s.ps xc with
        | none =>
          rw [hid9] at hgot
          obtain rfl : v7 = .slice none 0 0 := hgot
          have HFN : Hid (readB s.ps size b off k = ([], 13)) := by
            show _ = _
            rw [HE0.out, if_neg]
            rw [HA.out, HD.out, List.all_cons]
            have : fitB s.ps ⟨xo, xl, xc, xa⟩ = false := by
              unfold fitB txt
              rw [hid9]
              simp
              omega
            rw [this]
            simp
          clear hid9 hpb7
          have hpos : (0 : Int) < xa + xl := by omega
          go_wp2_with fail
          go_ret2
          exact ⟨by rw [HFN.out]; exact gave_none, HB7.out.1⟩
        | some bt =>
          rw [hid9] at hgot
          obtain ⟨g7, c7, rfl, hown⟩ := hgot
          obtain ⟨id7, hid7, hmem⟩ := byId_some hid9
          have hbt := HCK0.out.ok.pos _ hmem
          obtain ⟨hcap7, hrow7⟩ := row_of_owns' rfl hown hbt.2.2.2.2
          obtain ⟨nb, hnb⟩ : ∃ m, bt.length = m := ⟨_, rfl⟩
          rw [hnb] at hcap7 ⊢
          have HNBT := hid hnb
          have HROW7 := hid hrow7
          have HTX : Hid (txt s.ps xc = bt) := by show _ = _; unfold txt; rw [hid9]; rfl
          have hnb64 : nb ≤ 64 := by rw [← hnb]; exact hbt.2.2.2.1
          have HBTL : Hid (∀ x ∈ bt, x < 256) := hbt.2.2.2.2
          clear hown hid7 hmem hbt hrow7 hnb hid9 hpb7
          by_cases hfit : xa + xl ≤ (nb : Int)
          case neg =>
            have HFN : Hid (readB s.ps size b off k = ([], 13)) := by
              show _ = _
              rw [HE0.out, if_neg]
              rw [HA.out, HD.out, List.all_cons]
              have : fitB s.ps ⟨xo, xl, xc, xa⟩ = false := by
                unfold fitB
                rw [HTX.out, HNBT.out]
                simp
                omega
              rw [this]
              simp
            go_wp2_with fail
            go_ret2
            exact ⟨by rw [HFN.out]; exact gave_none, HB7.out.1⟩
          obtain ⟨ko, hko⟩ : ∃ m : Nat, xo - off = (m : Int) := ⟨(xo - off).toNat, by omega⟩
          obtain ⟨pa, rfl⟩ : ∃ m : Nat, xa = (m : Int) := ⟨xa.toNat, by omega⟩
          obtain ⟨ln, rfl⟩ : ∃ m : Nat, xl = (m : Int) := ⟨xl.toNat, by omega⟩
          have hkN : ko + ln ≤ N := by omega
          obtain ⟨pe, hpe2⟩ : ∃ m : Nat, pa + ln = m := ⟨_, rfl⟩
          have hpl : (pa : Int) + (ln : Int) = (pe : Int) := by omega
          have hpnb : pe ≤ nb := by omega
          have hfl : ¬ (nb : Int) < (pe : Int) := by omega
          have HPE := hid hpe2
          have eA : fromA (some ⟨g, 0, none⟩) ko N = some ⟨g, ko, none⟩ := by unfold fromA; rw [if_neg (by omega)]; show some (Addr.add ⟨g, 0, none⟩ ko) = _; rw [Addr.add_mid, Nat.zero_add]
          have eB : fromA (some ⟨g7, 0, none⟩) pa c7 = some ⟨g7, pa, none⟩ := by unfold fromA; rw [if_neg (by omega)]; show some (Addr.add ⟨g7, 0, none⟩ pa) = _; rw [Addr.add_mid, Nat.zero_add]
          have wr1 : IntKind.i64.wrap (xo - off) = (ko : Int) := by rw [hko]; exact wrap_i64 ko (by omega)
          have wr2 : IntKind.i64.wrap ((pa : Int) + (ln : Int)) = (pe : Int) := by rw [hpl]; exact wrap_i64 pe (by omega)
          have wr3 : IntKind.i64.wrap (ko : Int) = (ko : Int) := wrap_i64 ko (by omega)
          have wr4 : IntKind.i64.wrap (pe : Int) = (pe : Int) := wrap_i64 pe (by omega)
          have hln1 : 1 ≤ ln := by omega
          have hsl1 : ∀ W, (Instr.slice 54 (.slice (some ⟨g, 0, none⟩) N N) (some (.int .i64 (ko : Int))) none none).run Try.prog W = .ok (.slice (some ⟨g, ko, none⟩) (N - ko) (N - ko)) W := fun W => by
            rw [slice_from W _ N N ko (by omega), eA]
          have hsl2 : ∀ W, (Instr.slice 54 (.slice (some ⟨g7, 0, none⟩) nb c7) (some (.int .i64 (pa : Int))) (some (.int .i64 (pe : Int))) none).run Try.prog W = .ok (.slice (some ⟨g7, pa, none⟩) ln (c7 - pa)) W := fun W => by
            rw [slice_mid W _ nb c7 pa pe (by omega) (by omega), eB, show pe - pa = ln by omega]
          have hsrow : Row w7.drew (some ⟨g7, pa, none⟩) ((bt.drop pa).take ln) := by
            have h := row_drop (HROW7.out.below (Below.refl w7.heap.size w7).drew) pa c7 (by rw [HNBT.out]; exact hcap7)
            rw [eB] at h
            exact row_take h ln
          have hslen : ((bt.drop pa).take ln).length = ln := by rw [List.length_take, List.length_drop, HNBT.out]; omega
          have hT7d := HT7.out.below (Below.refl w7.heap.size w7).drew
          have hcp := fun ty => run_copy_bytes w7.drew ty g ko (N - ko) (N - ko) (some ⟨g7, pa, none⟩) ln (c7 - pa) (vals acc) 5 hT7d.cur ((bt.drop pa).take ln) (by rw [hslen]; show ln = min ln (N - ko); omega) hsrow (by rw [hslen, vals_len, HT7.out.len]; exact hkN)
          rw [hslen] at hcp
          have hT8 := hT7d.put ko ((bt.drop pa).take ln) (fun x hx => HBTL.out x (List.mem_of_mem_drop (List.mem_of_mem_take hx))) (by rw [hslen]; exact hkN)
          have hOn : Only g none w7 (w7.drew.setRow g (splice (vals acc) ko (vals ((bt.drop pa).take ln))).toArray) := by
            have h := only_setRow (g := g) w7.drew (splice (vals acc) ko (vals ((bt.drop pa).take ln))).toArray
            exact ⟨h.os, h.tape, h.output, h.size, h.block⟩
          have HT8 := hid hT8
          have HO8 := hid (HO7.out.only hOn (Nat.lt_succ_self g))
          have HB8 : Hid (Below w.heap.size w (w7.drew.setRow g (splice (vals acc) ko (vals ((bt.drop pa).take ln))).toArray) ∧ w1.heap.size ≤ (w7.drew.setRow g (splice (vals acc) ko (vals ((bt.drop pa).take ln))).toArray).heap.size) := by
            refine ⟨below_setRow (HB7.out.1.drew) HGW.out _, ?_⟩
            rw [setRow_size]
            exact HB7.out.2
          have HF8 : Hid (fillP s.ps off (Ps9.drop (i + 1)) (splice acc ko ((bt.drop pa).take ln)) = fillP s.ps off Ps9 (List.replicate N 0)) := by
            show _ = _
            rw [← HF.out, HD.out]
            show _ = fillP s.ps off (Ps9.drop (i + 1)) (splice acc (xo - off).toNat (said s.ps ⟨xo, ln, xc, pa⟩))
            unfold said
            rw [HTX.out, hko]
            rfl
          have HA8 : Hid (Ps9.all (fitB s.ps) = (Ps9.drop (i + 1)).all (fitB s.ps)) := by
            show _ = _
            rw [HA.out, HD.out, List.all_cons]
            have : fitB s.ps ⟨xo, ln, xc, pa⟩ = true := by
              unfold fitB
              rw [HTX.out, HNBT.out]
              simp
              omega
            rw [this]
            rfl
          have HCP := hid hcp
          have hs0 := HC7.out w7.drew (Below.refl _ _).drew
          have hs9 : ∀ cs, (((w7.drew.setRow g cs).cell? ⟨y, 0, none⟩ = some (.int .i64 xo) ∧ (w7.drew.setRow g cs).cell? ⟨y, 1, none⟩ = some (.int .i64 (ln : Int)) ∧ (w7.drew.setRow g cs).cell? ⟨y, 3, none⟩ = some (.int .i64 (pa : Int)))) := fun cs => by
            have h : (w7.drew.setRow g cs).heap[y]? = some (.cells #[.int .i64 xo, .int .i64 (ln : Int), .int .i64 xc, .int .i64 (pa : Int)] 58 (0, 0)) := (setRow_other w7.drew g y cs (by have := HYG.out; omega)).trans HPB7.out
            exact ⟨by rw [cell_of_row _ y 0 _ 58 (0, 0) h]; rfl, by rw [cell_of_row _ y 1 _ 58 (0, 0) h]; rfl, by rw [cell_of_row _ y 3 _ 58 (0, 0) h]; rfl⟩
          have HS9 := hid hs9
          clear hsrow hslen hT7d hT8 hcp hOn eA eB hpe2 HO7 HB7 HF HA HT7 hs9
          go_wp2_with fail
          clear f0 f1 f3
          go_region_held_law (fun W => W.cell? ⟨y, 0, none⟩ = some (.int .i64 xo) ∧ W.cell? ⟨y, 1, none⟩ = some (.int .i64 (ln : Int)) ∧ W.cell? ⟨y, 3, none⟩ = some (.int .i64 (pa : Int))) (first | assumption | exact HS9.out _) (refine step_copy_region rfl _ _ rfl g ko (N - ko) (N - ko) (some ⟨g7, pa, none⟩) ln (c7 - pa) rfl rfl _ ln HCP.out ?_)
          clear hs0
          go_wp2_with fail
          go_roundg (gk - 1)
          case measure => omega
          case rel => exact ⟨i + 1, _, by omega, by go_num, HT8, HO8, HF8, HA8, HB8⟩
      · have hg9 : ¬ (i : Int) < (nP : Int) := by omega
        have HEE : Hid (readB s.ps size b off k = (acc, 0)) := by
          show _ = _
          rw [HE0.out, if_pos]
          · have h := HF.out
            rw [List.drop_of_length_le (by rw [HNP.out]; omega)] at h
            rw [← h]
            rfl
          · rw [HA.out, List.drop_of_length_le (by rw [HNP.out]; omega)]
            rfl
        go_wp2_with fail
        go_ret2
        refine ⟨?_, HB.out.1⟩
        rw [HEE.out]
        refine ⟨_, rfl, ?_, HT.out.lt⟩
        have h := HT.out.owns HGW.out (by omega)
        rw [HT.out.len]
        exact h
end Go.Proofs.Ytccahhehbpahoaa
