/- What Crash of the document's own disk answers. Condition: at most a million bytes of choice. -/
import Derived.Test.YtoniolndoidkcaaRefE
namespace Go.Proofs.Ytoniolndoidkcaa
open Go.RowKit
theorem RefOk.mono {base b0 : Nat} {w : World} {q : Nat} {R : RefMem} {d : Dk} (h : RefOk base w q R d) (hb : b0 ≤ base) : RefOk b0 w q R d :=
  { h with low := ⟨Nat.le_trans hb h.low.1, fun hn => ⟨Nat.le_trans hb (h.low.2.1 hn).1, Nat.le_trans hb (h.low.2.1 hn).2.1, Nat.le_trans hb (h.low.2.1 hn).2.2⟩, fun i hi => ⟨Nat.le_trans hb (h.low.2.2 i hi).1, Nat.le_trans hb (h.low.2.2 i hi).2⟩⟩ }
theorem ready_copy {ops : Array Oper} {Q : Exit → Act → World → Prop} {md : Region.Mode} {S : World → Prop} {fuel : Nat} {listed : Array Bool} {a : Act} {w : World} (i : Nat) (t : Option Tmp) {o : Oper} (ho : ops[i]? = some o) (hd : o.dst = t) (hr : Region.ready md ops listed = [i]) (hw : Region.wanted o (yielded ops a.tmps) = true) (d s : Operand) (hop : o.op = .call { callee := .builtin .copy, args := #[d, s], argTypes := #[23, 23] }) (g off dLen dCap : Nat) (src : Option Addr) (sLen sCap : Nat) (h1 : a.eval d = .slice (some ⟨g, off, none⟩) dLen dCap) (h2 : a.eval s = .slice src sLen sCap) (w8 : World) (n : Nat) (hrun : (Builtin.copy_ #[23, 23] o.type #[.slice (some ⟨g, off, none⟩) dLen dCap, .slice src sLen sCap]).run Try.prog w = .ok (goInt n) w8) (hS : S w8) (h : wpAnyH Try.prog md ops Q S fuel (listed.setIfInBounds i true) (a.put t (goInt n)) w8) : wpAnyH Try.prog md ops Q S (fuel + 1) listed a w := by
  subst hd
  refine wpAnyH_ready hr (by simp) (AllReadyH.cons ho (fun K hK => ?_) AllReadyH.nil)
  rw [if_pos hw]
  unfold Oper.wp
  simp [execOp, hop, resolve, invoke, builtin, h1, h2, hrun, Result.andThen]
  exact hK.out _ _ hS (fun _ => h)
theorem wrap_u8 (n : Nat) (h : n < 256) : IntKind.u8.wrap (n : Int) = (n : Int) := by
  unfold IntKind.wrap
  simp only [show IntKind.u8.bits = 8 from rfl, show IntKind.u8.signed = false from rfl]
  simp; omega
theorem slice_to8 (w : World) (a : Option Addr) (n cap k : Nat) (hk : k ≤ cap) : (Instr.slice 23 (.slice a n cap) none (some (.int .u8 (k : Int))) none).run Try.prog w = .ok (.slice a k cap) w := by
  have e5 : Try.prog.elem 23 = 5 := by kernel_rfl
  have s5 : ∀ w : World, (sizeOf 5).run Try.prog w = .ok 1 w := fun w => by kernel_rfl
  have a0 : ∀ a : Addr, a.add 0 = a := fun a => by unfold Addr.add; simp
  rw [run_slice_h (ht := (by rw [e5]; exact Try.underlying23 : Try.prog.underlying 23 = some (.slice (Try.prog.elem 23)))) (kh := .u8) (h := (k : Int)) (h0 := by omega) (h2 := by omega), e5, s5]
  simp [sliced, Result.andThen, a0]
theorem slice_run (ρ : Operand → Value) (o : Oper) (w : World) (a : Option Addr) (n cap k : Nat) (hop : o.op = .slice 23 (.tmp 67) none (some (.tmp 69)) none) (h1 : ρ (.tmp 67) = .slice a n cap) (h2 : ρ (.tmp 69) = .int .u8 (k : Int)) (hk : k ≤ cap) : (execOp ρ o).run Try.prog w = .ok (.value (.slice a k cap)) w := by
  have h := slice_to8 w a n cap k hk
  unfold execOp
  simp [hop, h1, h2, h, Instr.sliceAt, Result.andThen]
/-- Two rows that are laid into a new disk. -/
theorem rcrash_mem {B : Nat} {W w9 : World} {q i g k1 g2 k2 : Nat} {R : RefMem} {d : Dk} {m : List Nat} (h : RefOk B W q R d) (hi : i < d.n) (hw : (d.sec i).waits = false) (hm1 : RBuf w9 g m) (hm2 : RBuf w9 g2 m) (hl : Below W.heap.size W w9)
    (hg : B ≤ g ∧ g < W.heap.size ∧ ∀ j, j < d.n → g ≠ R.fr j ∧ g ≠ R.cr j) (hg2 : W.heap.size ≤ g2) (hk : 64 ≤ k1 ∧ 64 ≤ k2) (_hB : B ≤ W.heap.size) :
    ∃ w5, w5 = (w9.setCell ⟨R.F, i, none⟩ (.slice (some ⟨g, 0, none⟩) 64 k1)).setCell ⟨R.C, i, none⟩ (.slice (some ⟨g2, 0, none⟩) 64 k2) ∧ (∃ R', RefOk B w5 q R' (d.turned i ⟨m, zeros, false⟩)) ∧ Below B W w5 := by
  have hpos : 0 < d.n := by omega
  have h3 := h.below hl
  obtain ⟨a1, a2, a3, a4, a5, a6⟩ := h3.apart hpos
  have rne : ∀ j, j < d.n → R.fr j ≠ R.F ∧ R.fr j ≠ R.C ∧ R.cr j ≠ R.F ∧ R.cr j ≠ R.C := fun j hj => ⟨(h3.rf j hj).1.type_ne (h3.tf hpos) (by decide), (h3.rf j hj).1.type_ne (h3.tc hpos) (by decide), (h3.rc j hj).1.type_ne (h3.tf hpos) (by decide), (h3.rc j hj).1.type_ne (h3.tc hpos) (by decide)⟩
  have two : ∀ k, k ≠ R.F → k ≠ R.C → ((w9.setCell ⟨R.F, i, none⟩ (.slice (some ⟨g, 0, none⟩) 64 k1)).setCell ⟨R.C, i, none⟩ (.slice (some ⟨g2, 0, none⟩) 64 k2)).heap[k]? = w9.heap[k]? := fun k h1 h2 => (Below.heap_setCell _ _ _ k h2).trans (Below.heap_setCell _ _ _ k h1)
  have gne : g ≠ R.F ∧ g ≠ R.C := ⟨hm1.1.type_ne (h3.tf hpos) (by decide), hm1.1.type_ne (h3.tc hpos) (by decide)⟩
  have gne2 : g2 ≠ R.F ∧ g2 ≠ R.C := ⟨hm2.1.type_ne (h3.tf hpos) (by decide), hm2.1.type_ne (h3.tc hpos) (by decide)⟩
  have hlow := h.low.2.1 hpos
  refine ⟨_, rfl, ⟨_, h3.upd i hi ⟨m, zeros, false⟩ ⟨hm1.2, bytes_zeros⟩ g k1 g2 k2 (two q a1 a2)
    (((h3.tf hpos).set i _).other _ _ a6)
    (((h3.tc hpos).other ⟨R.F, i, none⟩ _ (Ne.symm a6)).set i _)
    (((h3.td hpos).kept (two R.D (Ne.symm a4) (Ne.symm a5))).congr fun j _ => by by_cases e : j = i <;> simp [e, hw])
    (hm1.kept (two _ gne.1 gne.2)) (hm2.kept (two _ gne2.1 gne2.2))
    (fun j hj _ => ⟨two _ (rne j hj).1 (rne j hj).2.1, two _ (rne j hj).2.2.1 (rne j hj).2.2.2⟩)
    ⟨by omega, fun j hj _ => ⟨(hg.2.2 j hj).1, (hg.2.2 j hj).2, by have := (h.rows_lt j hj).1; omega, by have := (h.rows_lt j hj).2; omega⟩⟩ ⟨hg.1, by omega⟩ hk⟩, ?_⟩
  exact ⟨hl.os, hl.tape, hl.output, by have := hl.size; simp [World.setCell]; omega, fun k hk => (two k (by omega) (by omega)).trans (hl.block k (by omega))⟩
def part_ (c : List Nat) (d : Dk) (i : Nat) : Dk := ⟨crashTo c d.secs i, 0, none, false⟩
theorem part_zero_ (c : List Nat) (d : Dk) : part_ c d 0 = fresh d.n := by simp [part_, fresh, crashTo_zero, Dk.n]
theorem part_n (c : List Nat) (d : Dk) (i : Nat) : (part_ c d i).n = d.n := by simp [part_, Dk.n, crashTo_len]
theorem part_sec (c : List Nat) (d : Dk) (i : Nat) (hi : i < d.n) : (part_ c d i).sec i = blank := crashTo_get c d.secs i hi
theorem part_turned (c : List Nat) (d : Dk) (i : Nat) (hi : i < d.n) : (part_ c d i).turned i (crashAt c d.secs i) = part_ c d (i + 1) := by
  simp only [part_, Dk.turned, crashTo_set c d.secs i hi]
theorem part_done (c : List Nat) (d : Dk) : part_ c d d.n = d.crash c := by
  simp only [part_, Dk.crash, Dk.n, crashTo_all]
theorem mix_zero (a b : List Nat) : mix a b 0 = a := by simp [mix]
set_option maxRecDepth 20000 in
set_option maxHeartbeats 8000000 in
theorem rcrash_any {base : Nat} {w : World} {q : Nat} {R : RefMem} {d : Dk} (h : RefOk base w q R d) (a : Option Addr) (c : List Nat) (n cap : Nat) (hr : Row w a c) (hn : c.length = n) (hm : n ≤ 1000000) :
    Calls Try.prog 25 #[.pointer (some ⟨q, 0, none⟩), .slice a n cap] w fun e w' => ∃ q', e = .returned (.pointer (some ⟨q', 0, none⟩)) ∧ (∃ R', RefOk w.heap.size w' q' R' (d.crash c)) ∧ Below w.heap.size w w' := by
  obtain ⟨c0, c1, c2, c3, c4, c5, cf⟩ := h.cells
  have HH := hid h
  have HR := hid hr
  have HC := hid hr.1
  have h776 := h.ok.2
  clear h hr c0 c2 c3 c4 c5 cf
  go_enter Try.func25, Try.ntmps25
  go_wp2_with fail
  refine (rnew_any w d.n h776).mono ?_
  rintro e w1 ⟨x, rfl, ⟨Rx, hx⟩, hb1⟩
  rw [← part_zero_ c d] at hx
  have HX := hid hx
  have HB1 := hid hb1
  clear hx hb1 c1
  go_wp2_with fail
  go_loopg [6, 7, 8, 9] d.n (fun t v6 v7 v8 v9 wr => ∃ i : Nat, i + t = d.n ∧ v7 = .int .i64 (i : Int) ∧ v6 = .int .i64 (count d.secs i : Nat) ∧ (∃ Rx, RefOk w.heap.size wr x Rx (part_ c d i)) ∧ Below w.heap.size w wr)
  case atStart => exact ⟨0, by omega, rfl, by simp [count], ⟨Rx, HX.out⟩, HB1.out⟩
  case round =>
    obtain ⟨i, hk, rfl, rfl, ⟨Ri, hx⟩, hb⟩ := hrel
    have hh := HH.out.below hb
    obtain ⟨e0, e1, e2, _, _, _, _⟩ := hh.cells
    have HBi := hid hb
    have HXi := hid hx
    by_cases hi : i < d.n
    · have hii : (i : Int) < (d.n : Int) := by omega
      have hpos : 0 < d.n := by omega
      obtain ⟨hfa, hca, hda⟩ := hh.ad hpos
      rw [hfa] at e0
      rw [hca] at e1
      rw [hda] at e2
      have kF := (hh.tf hpos).cell i hi
      have kCr := (hh.tc hpos).cell i hi
      have hrowF := hh.rf i hi
      obtain ⟨g, cap', w3, hrun, hbuf, hbel, hgg, hcc⟩ := append_nil wr 23 _ _ (R.fc i) hrowF.row hrowF.2.1
      have hh3 := hh.below hbel
      have hx3 := hx.below hbel
      obtain ⟨f0, f1, f2, _, _, _, _⟩ := hh3.cells
      rw [hca] at f1
      rw [hda] at f2
      have kD := (hh3.td hpos).cell i hi
      have kC := (hh3.tc hpos).cell i hi
      have hrowC := hh3.rc i hi
      have HRUN := hid hrun
      have HBUF := hid hbuf
      have HBEL := hid hbel
      have HGG := hid hgg
      have HCC := hid hcc
      have HCT : Hid (crashAt c d.secs i = crashed c (d.sec i) (count d.secs i)) := rfl
      have HCS : Hid (count d.secs (i + 1) = count d.secs i + if (d.sec i).waits then 1 else 0) := count_succ d.secs i hi
      have hcl := count_le d.secs i
      have HRC := hid hrowC
      have HG3 : Hid (w.heap.size ≤ g ∧ ∀ j, j < (part_ c d i).n → g ≠ Ri.fr j ∧ g ≠ Ri.cr j) := ⟨Nat.le_trans hb.size hgg, fun j hj => by have := hx.rows_lt j hj; omega⟩
      have HX3 := hid hx3
      have HSO : Hid ((d.sec i).ok) := hh.ok.1.get i hi
      have hpn := part_n c d i
      have HTN := hid (part_turned c d i hi)
      have HPS := hid (part_sec c d i hi)
      have HNE := hid ((hx3.apart (by omega)))
      have HAD := hid (hx3.ad (by omega))
      have hcr3 : Row w3 a c := (HR.out.below hb).below hbel
      have HR3 := hid hcr3
      clear hh hx hrun hbuf hbel hgg hcc hh3 hx3 hrowF hrowC f0 hcr3 hfa hca hda hb
      generalize hss : d.sec i = s at *
      generalize hct : count d.secs i = ct at *
      have hct5 : (ct : Int) ≤ 776 := by omega
      have HHN := hid hpn
      clear hss hct hpn
      generalize hdn : d.n = N at *
      generalize R.F = FB at *
      generalize R.C = CB at *
      generalize R.D = DB at *
      generalize R.kf = kf at *
      generalize R.kc = kc at *
      generalize R.kd = kd at *
      generalize R.fr i = fri at *
      generalize R.fc i = fci at *
      generalize R.cr i = cri at *
      generalize R.cc i = cci at *
      cases hw : s.waits
      · rw [hw] at kD
        have HCE : Hid (crashAt c d.secs i = ⟨s.safe, zeros, false⟩) := by show _ = _; rw [HCT.out, crashed, hw]; rfl
        have HCO : Hid (count d.secs (i + 1) = ct) := by show _ = _; rw [HCS.out, hw]; rfl
        have HM8 := HBUF
        have HB8 := HBEL
        have tok : True := trivial
        clear hw
        go_wp2_with (have _t := tok; refine step_app 23 rfl _ _ rfl _ _ rfl rfl _ w3 HRUN.out ?_; clear tok)
        have hx8 := HXi.out.below HB8.out
        have hrow8 : Row w3.drew (some ⟨g, 0, none⟩) (s.safe) := HM8.out.row
        obtain ⟨g2, cap2, w9, hrun9, hbuf9, hbel9, hgg9, hcc9⟩ := append_nil w3.drew 23 _ _ cap' hrow8 HM8.out.2.1
        have hx8d := hx8.drew
        have hg8 : g < w3.heap.size := HM8.out.1.lt
        have hi8 : i < (part_ c d i).n := by rw [HHN.out]; exact hi
        obtain ⟨w10, hw10, hok10, hb10⟩ := rcrash_mem hx8d hi8 (by rw [HPS.out]; rfl) (HM8.out.kept (hbel9.block g hg8)) hbuf9 hbel9 ⟨HG3.out.1, hg8, HG3.out.2⟩ hgg9 ⟨HCC.out, hcc9⟩ (Nat.le_trans HBi.out.size HB8.out.size)
        have hx9 := hx8d.below hbel9
        obtain ⟨b1, b2, b3, b4, b5, b6⟩ := hx9.apart (by omega)
        obtain ⟨p0, p1, _, _, _, _, _⟩ := hx8.cells
        obtain ⟨r0, r1, _, _, _, _, _⟩ := hx9.cells
        obtain ⟨hfx, hcx, _⟩ := HAD.out
        rw [hfx] at p0 r0
        rw [hcx] at p1 r1
        have yF := (hx9.tf (by omega)).cell i hi8
        have yFF := (hx9.tf (by omega)).frozen i
        have tC4 := (hx9.tc (by omega)).other ⟨Ri.F, i, none⟩ (.slice (some ⟨g, 0, none⟩) 64 cap') (Ne.symm b6)
        have yC := tC4.cell i hi8
        have yFC := tC4.frozen i
        have cellq : ∀ (W W' : World) (j : Nat), W'.heap[x]? = W.heap[x]? → W'.cell? ⟨x, j, none⟩ = W.cell? ⟨x, j, none⟩ := fun W W' j e => by simp only [World.cell?, e]
        have q4 : (w9.setCell ⟨Ri.F, i, none⟩ (.slice (some ⟨g, 0, none⟩) 64 cap')).heap[x]? = w9.heap[x]? := Below.heap_setCell _ _ _ x b1
        have q5 : ((w9.setCell ⟨Ri.F, i, none⟩ (.slice (some ⟨g, 0, none⟩) 64 cap')).setCell ⟨Ri.C, i, none⟩ (.slice (some ⟨g2, 0, none⟩) 64 cap2)).heap[x]? = w9.heap[x]? := (Below.heap_setCell _ _ _ x b2).trans q4
        rw [HHN.out] at p0 p1 r0 r1
        have S2 := hid (And.intro (show w3.drew.cell? ⟨x, 0, none⟩ = _ from p0) (show w3.drew.cell? ⟨x, 1, none⟩ = _ from p1))
        have S3 := hid (And.intro r0 r1)
        have S4 := hid (And.intro ((cellq _ _ 0 q4).trans r0) ((cellq _ _ 1 q4).trans r1))
        have S5 := hid (And.intro ((cellq _ _ 0 q5).trans r0) ((cellq _ _ 1 q5).trans r1))
        have HREL : Hid (∃ R', RefOk w.heap.size w10 x R' (part_ c d (i + 1))) := by
          obtain ⟨R', hR'⟩ := hok10
          refine ⟨R', ?_⟩
          rw [← HTN.out, HCE.out]
          exact hR'
        have HBF : Hid (Below w.heap.size w w10) := HBi.out.trans ((HB8.out.mono HBi.out.size).trans ((Below.refl _ _).drew.trans hb10))
        have HW10 := hid hw10
        have HRUN9 := hid hrun9
        clear HH HR HC HX HB1 HBi HXi HBUF HBEL HGG HCC HCT HCS HRC HG3 HX3 HSO HTN HPS HNE HAD HR3 HHN HRUN HM8 HB8 HCE
        clear hx8 hrow8 hrun9 hbuf9 hbel9 hgg9 hcc9 hx8d hg8 hi8 hw10 hok10 hb10 hx9 b1 b2 b3 b4 b5 b6 p0 p1 r0 r1 hfx hcx tC4 cellq q4 q5 kF kCr kD kC f1 f2 e0 e1 e2
        generalize Ri.F = FX at *
        generalize Ri.C = CX at *
        generalize Ri.kf = kfx at *
        generalize Ri.kc = kcx at *
        go_wp2_with fail
        go_region_held_law (fun W => W.cell? ⟨x, 0, none⟩ = some (.slice (some ⟨FX, 0, none⟩) N kfx) ∧ W.cell? ⟨x, 1, none⟩ = some (.slice (some ⟨CX, 0, none⟩) N kcx)) (first | exact S2.out | exact S3.out | exact S4.out | exact S5.out) (refine step_app_region rfl _ _ rfl _ _ rfl rfl _ w9 HRUN9.out ?_)
        go_wp2_with fail
        go_roundg (gk - 1)
        case measure => omega
        case rel =>
          rw [← HW10.out]
          exact ⟨i + 1, by omega, by go_num, by rw [HCO.out], HREL.out, HBF.out⟩
      · rw [hw] at kD
        have HCO : Hid (count d.secs (i + 1) = ct + 1) := by show _ = _; rw [HCS.out, hw]; rfl
        have HCE0 : Hid (crashAt c d.secs i = ⟨mix s.safe s.cached (stay c ct), zeros, false⟩) := by show _ = _; rw [HCT.out, crashed, hw]; rfl
        have hlast : s.last = s.cached := by simp [Sec.last, hw]
        rw [hlast] at HRC
        clear hw hlast
        have tok : True := trivial
        by_cases hce : c = []
        · have hn0 : n = 0 := by rw [← hn, hce]; rfl
          have HCE : Hid (crashAt c d.secs i = ⟨s.safe, zeros, false⟩) := by
            show _ = _
            rw [HCE0.out]
            have : stay c ct = 0 := by simp [stay, rep, hce]
            rw [this, mix_zero]
          have HM8 := HBUF
          have HB8 := HBEL
          have hnn : ¬ ((0 : Int) < (n : Int)) := by omega
          have HCEE := hid hce
          clear hce hn0
          go_wp2_with (first | (have _t := tok; refine step_app 23 rfl _ _ rfl _ _ rfl rfl _ w3 HRUN.out ?_; clear tok))
          have hx8 := HXi.out.below HB8.out
          have hrow8 : Row w3.drew (some ⟨g, 0, none⟩) (s.safe) := HM8.out.row
          obtain ⟨g2, cap2, w9, hrun9, hbuf9, hbel9, hgg9, hcc9⟩ := append_nil w3.drew 23 _ _ cap' hrow8 HM8.out.2.1
          have hx8d := hx8.drew
          have hg8 : g < w3.heap.size := HM8.out.1.lt
          have hi8 : i < (part_ c d i).n := by rw [HHN.out]; exact hi
          obtain ⟨w10, hw10, hok10, hb10⟩ := rcrash_mem hx8d hi8 (by rw [HPS.out]; rfl) (HM8.out.kept (hbel9.block g hg8)) hbuf9 hbel9 ⟨HG3.out.1, hg8, HG3.out.2⟩ hgg9 ⟨HCC.out, hcc9⟩ (Nat.le_trans HBi.out.size HB8.out.size)
          have hx9 := hx8d.below hbel9
          obtain ⟨b1, b2, b3, b4, b5, b6⟩ := hx9.apart (by omega)
          obtain ⟨p0, p1, _, _, _, _, _⟩ := hx8.cells
          obtain ⟨r0, r1, _, _, _, _, _⟩ := hx9.cells
          obtain ⟨hfx, hcx, _⟩ := HAD.out
          rw [hfx] at p0 r0
          rw [hcx] at p1 r1
          have yF := (hx9.tf (by omega)).cell i hi8
          have yFF := (hx9.tf (by omega)).frozen i
          have tC4 := (hx9.tc (by omega)).other ⟨Ri.F, i, none⟩ (.slice (some ⟨g, 0, none⟩) 64 cap') (Ne.symm b6)
          have yC := tC4.cell i hi8
          have yFC := tC4.frozen i
          have cellq : ∀ (W W' : World) (j : Nat), W'.heap[x]? = W.heap[x]? → W'.cell? ⟨x, j, none⟩ = W.cell? ⟨x, j, none⟩ := fun W W' j e => by simp only [World.cell?, e]
          have q4 : (w9.setCell ⟨Ri.F, i, none⟩ (.slice (some ⟨g, 0, none⟩) 64 cap')).heap[x]? = w9.heap[x]? := Below.heap_setCell _ _ _ x b1
          have q5 : ((w9.setCell ⟨Ri.F, i, none⟩ (.slice (some ⟨g, 0, none⟩) 64 cap')).setCell ⟨Ri.C, i, none⟩ (.slice (some ⟨g2, 0, none⟩) 64 cap2)).heap[x]? = w9.heap[x]? := (Below.heap_setCell _ _ _ x b2).trans q4
          rw [HHN.out] at p0 p1 r0 r1
          have S2 := hid (And.intro (show w3.drew.cell? ⟨x, 0, none⟩ = _ from p0) (show w3.drew.cell? ⟨x, 1, none⟩ = _ from p1))
          have S3 := hid (And.intro r0 r1)
          have S4 := hid (And.intro ((cellq _ _ 0 q4).trans r0) ((cellq _ _ 1 q4).trans r1))
          have S5 := hid (And.intro ((cellq _ _ 0 q5).trans r0) ((cellq _ _ 1 q5).trans r1))
          have HREL : Hid (∃ R', RefOk w.heap.size w10 x R' (part_ c d (i + 1))) := by
            obtain ⟨R', hR'⟩ := hok10
            refine ⟨R', ?_⟩
            rw [← HTN.out, HCE.out]
            exact hR'
          have HBF : Hid (Below w.heap.size w w10) := HBi.out.trans ((HB8.out.mono HBi.out.size).trans ((Below.refl _ _).drew.trans hb10))
          have HW10 := hid hw10
          have HRUN9 := hid hrun9
          clear HH HR HC HX HB1 HBi HXi HBUF HBEL HGG HCC HCT HCS HRC HG3 HX3 HSO HTN HPS HNE HAD HR3 HHN HRUN HM8 HB8 HCE
          clear hx8 hrow8 hrun9 hbuf9 hbel9 hgg9 hcc9 hx8d hg8 hi8 hw10 hok10 hb10 hx9 b1 b2 b3 b4 b5 b6 p0 p1 r0 r1 hfx hcx tC4 cellq q4 q5 HCEE HCE0 kF kCr kD kC f1 f2 e0 e1 e2 hnn
          generalize Ri.F = FX at *
          generalize Ri.C = CX at *
          generalize Ri.kf = kfx at *
          generalize Ri.kc = kcx at *
          go_wp2_with fail
          go_region_held_law (fun W => W.cell? ⟨x, 0, none⟩ = some (.slice (some ⟨FX, 0, none⟩) N kfx) ∧ W.cell? ⟨x, 1, none⟩ = some (.slice (some ⟨CX, 0, none⟩) N kcx)) (first | exact S2.out | exact S3.out | exact S4.out | exact S5.out) (refine step_app_region rfl _ _ rfl _ _ rfl rfl _ w9 HRUN9.out ?_)
          go_wp2_with fail
          go_roundg (gk - 1)
          case measure => omega
          case rel =>
            rw [← HW10.out]
            exact ⟨i + 1, by omega, by go_num, by rw [HCO.out]; go_num, HREL.out, HBF.out⟩
        · obtain ⟨p0, o0, hpa, hcell⟩ := HR3.out.cell hce
          have hposc : 0 < c.length := List.length_pos_iff.2 hce
          have hlt := Nat.mod_lt ct hposc
          have hc0 := hcell _ hlt
          have hX : c.getD (ct % c.length) 0 = rep c ct := by rw [rep, if_neg hce]
          rw [hX] at hc0
          have hX256 := rep_lt HC.out ct
          have hst : stay c ct = if rep c ct % 4 = 1 then 64 else if rep c ct % 4 = 3 then rep c ct / 4 else 0 := rfl
          have hand := and3 (rep c ct) hX256
          rw [hn] at hlt hc0 hposc
          have htm : Int.tmod (ct : Int) (n : Int) = ((ct % n : Nat) : Int) := by rw [Int.tmod_eq_emod_of_nonneg (by omega)]; simp
          have hmod : ((ct : Int) % (n : Int)) = ((ct % n : Nat) : Int) := by simp
          have hbi : ¬ ((n : Int) = 0) := by omega
          have hnn : (0 : Int) < (n : Int) := by omega
          have hq4 : Int.tdiv (rep c ct : Int) 4 = ((rep c ct / 4 : Nat) : Int) := by rw [Int.tdiv_eq_ediv_of_nonneg (by omega)]; simp
          have hd4 : (rep c ct : Int) / 4 = ((rep c ct / 4 : Nat) : Int) := by simp
          have HQ4 : Hid (rep c ct / 4 < 64) := by show _ < _; omega
          have HST := hid hst
          subst hpa
          clear hst hX hcell hce
          generalize ct % n = jj at *
          generalize hXX : rep c ct = X at *
          generalize hr4 : X % 4 = r at *
          generalize hqq : X / 4 = Q at *
          clear hXX hr4 hqq
          by_cases h1 : r = 1
          · subst h1
            have HCE : Hid (crashAt c d.secs i = ⟨mix s.safe s.cached 64, zeros, false⟩) := by show _ = _; rw [HCE0.out, HST.out, if_pos rfl]
            obtain ⟨cur, hg3, hf3, hb3⟩ := HBUF.out.over 0 HSO.out.2.2 (by rw [HSO.out.2.1]; decide)
            have hmx : over s.safe 0 s.cached = mix s.safe s.cached 64 := by rw [← mix_over _ _ _ (by rw [HSO.out.2.1]; decide), List.take_of_length_le (by rw [HSO.out.2.1]; decide)]
            rw [hmx] at hb3
            obtain ⟨w8, hw8⟩ : ∃ w8, w8 = w3.setRow g (splice cur 0 (vals s.cached)).toArray := ⟨_, rfl⟩
            rw [← hw8] at hb3
            have HM8 := hid hb3
            have HB8 : Hid (Below wr.heap.size wr w8) := by rw [hw8]; exact below_setRow HBEL.out HGG.out _
            have HW8 := hid hw8
            have HG8 := hid hg3
            have HF8 := hid hf3
            clear hb3 hw8 hg3 hf3 hmx
            have tok2 : True := trivial
            go_wp2_with (first | (have _t := tok; refine step_app 23 rfl _ _ rfl _ _ rfl rfl _ w3 HRUN.out ?_; clear tok) | (have _t := tok2; refine step_copy rfl _ _ rfl g 0 64 cap' (some ⟨cri, 0, none⟩) 64 cci rfl rfl _ 5 HG8.out s.cached (by rw [HSO.out.2.1]; rfl) HRC.out.row HF8.out ?_; intro w4 hw4; obtain rfl := hw4.trans HW8.out.symm; clear tok2 hw4))
            have hx8 := HXi.out.below HB8.out
            have hrow8 : Row w4.drew (some ⟨g, 0, none⟩) (mix s.safe s.cached 64) := HM8.out.row
            obtain ⟨g2, cap2, w9, hrun9, hbuf9, hbel9, hgg9, hcc9⟩ := append_nil w4.drew 23 _ _ cap' hrow8 HM8.out.2.1
            have hx8d := hx8.drew
            have hg8 : g < w4.heap.size := HM8.out.1.lt
            have hi8 : i < (part_ c d i).n := by rw [HHN.out]; exact hi
            obtain ⟨w10, hw10, hok10, hb10⟩ := rcrash_mem hx8d hi8 (by rw [HPS.out]; rfl) (HM8.out.kept (hbel9.block g hg8)) hbuf9 hbel9 ⟨HG3.out.1, hg8, HG3.out.2⟩ hgg9 ⟨HCC.out, hcc9⟩ (Nat.le_trans HBi.out.size HB8.out.size)
            have hx9 := hx8d.below hbel9
            obtain ⟨b1, b2, b3, b4, b5, b6⟩ := hx9.apart (by omega)
            obtain ⟨p0, p1, _, _, _, _, _⟩ := hx8.cells
            obtain ⟨r0, r1, _, _, _, _, _⟩ := hx9.cells
            obtain ⟨hfx, hcx, _⟩ := HAD.out
            rw [hfx] at p0 r0
            rw [hcx] at p1 r1
            have yF := (hx9.tf (by omega)).cell i hi8
            have yFF := (hx9.tf (by omega)).frozen i
            have tC4 := (hx9.tc (by omega)).other ⟨Ri.F, i, none⟩ (.slice (some ⟨g, 0, none⟩) 64 cap') (Ne.symm b6)
            have yC := tC4.cell i hi8
            have yFC := tC4.frozen i
            have cellq : ∀ (W W' : World) (j : Nat), W'.heap[x]? = W.heap[x]? → W'.cell? ⟨x, j, none⟩ = W.cell? ⟨x, j, none⟩ := fun W W' j e => by simp only [World.cell?, e]
            have q4 : (w9.setCell ⟨Ri.F, i, none⟩ (.slice (some ⟨g, 0, none⟩) 64 cap')).heap[x]? = w9.heap[x]? := Below.heap_setCell _ _ _ x b1
            have q5 : ((w9.setCell ⟨Ri.F, i, none⟩ (.slice (some ⟨g, 0, none⟩) 64 cap')).setCell ⟨Ri.C, i, none⟩ (.slice (some ⟨g2, 0, none⟩) 64 cap2)).heap[x]? = w9.heap[x]? := (Below.heap_setCell _ _ _ x b2).trans q4
            rw [HHN.out] at p0 p1 r0 r1
            have S2 := hid (And.intro (show w4.drew.cell? ⟨x, 0, none⟩ = _ from p0) (show w4.drew.cell? ⟨x, 1, none⟩ = _ from p1))
            have S3 := hid (And.intro r0 r1)
            have S4 := hid (And.intro ((cellq _ _ 0 q4).trans r0) ((cellq _ _ 1 q4).trans r1))
            have S5 := hid (And.intro ((cellq _ _ 0 q5).trans r0) ((cellq _ _ 1 q5).trans r1))
            have HREL : Hid (∃ R', RefOk w.heap.size w10 x R' (part_ c d (i + 1))) := by
              obtain ⟨R', hR'⟩ := hok10
              refine ⟨R', ?_⟩
              rw [← HTN.out, HCE.out]
              exact hR'
            have HBF : Hid (Below w.heap.size w w10) := HBi.out.trans ((HB8.out.mono HBi.out.size).trans ((Below.refl _ _).drew.trans hb10))
            have HW10 := hid hw10
            have HRUN9 := hid hrun9
            clear HH HR HC HX HB1 HBi HXi HBUF HBEL HGG HCC HCT HCS HRC HG3 HX3 HSO HTN HPS HNE HAD HR3 HHN HRUN HM8 HB8 HCE
            clear hx8 hrow8 hrun9 hbuf9 hbel9 hgg9 hcc9 hx8d hg8 hi8 hw10 hok10 hb10 hx9 b1 b2 b3 b4 b5 b6 p0 p1 r0 r1 hfx hcx tC4 cellq q4 q5 HST HCE0 HQ4 HG8 HF8 HW8 kF kCr kD kC f1 f2 e0 e1 e2 hc0 hand htm hmod hbi hnn hq4 hd4
            generalize Ri.F = FX at *
            generalize Ri.C = CX at *
            generalize Ri.kf = kfx at *
            generalize Ri.kc = kcx at *
            go_wp2_with fail
            go_region_held_law (fun W => W.cell? ⟨x, 0, none⟩ = some (.slice (some ⟨FX, 0, none⟩) N kfx) ∧ W.cell? ⟨x, 1, none⟩ = some (.slice (some ⟨CX, 0, none⟩) N kcx)) (first | exact S2.out | exact S3.out | exact S4.out | exact S5.out) (refine step_app_region rfl _ _ rfl _ _ rfl rfl _ w9 HRUN9.out ?_)
            go_wp2_with fail
            go_roundg (gk - 1)
            case measure => omega
            case rel =>
              rw [← HW10.out]
              exact ⟨i + 1, by omega, by go_num, by rw [HCO.out]; go_num, HREL.out, HBF.out⟩
          have u1 : ((r : Int) == 1) = false := by simp; omega
          have u1' : ¬ ((r : Int) = 1) := by omega
          by_cases h3 : r = 3
          · subst h3
            have HCE : Hid (crashAt c d.secs i = ⟨mix s.safe s.cached Q, zeros, false⟩) := by show _ = _; rw [HCE0.out, HST.out, if_neg (by decide), if_pos rfl]
            have hlT : (s.cached.take Q).length = Q := by have := HQ4.out; have := HSO.out.2.1; simp; omega
            obtain ⟨cur, hg3, hf3, hb3⟩ := HBUF.out.over 0 (b := s.cached.take Q) (fun v hv => HSO.out.2.2 v (List.mem_of_mem_take hv)) (by rw [hlT]; have := HQ4.out; omega)
            rw [mix_over _ _ _ (by rw [HSO.out.2.1]; exact Nat.le_of_lt HQ4.out)] at hb3
            have hrT : Row w3.drew (some ⟨cri, 0, none⟩) (s.cached.take Q) := row_take (show Row w3.drew (some ⟨cri, 0, none⟩) s.cached from HRC.out.row) Q
            have hcp := run_copy_bytes w3.drew 3 g 0 Q cap' (some ⟨cri, 0, none⟩) 64 cci cur 5 hg3 (s.cached.take Q) (by rw [hlT]; exact (Nat.min_eq_right (Nat.le_of_lt HQ4.out)).symm) hrT hf3
            rw [hlT] at hcp
            obtain ⟨w8, hw8⟩ : ∃ w8, w8 = w3.drew.setRow g (splice cur 0 (vals (s.cached.take Q))).toArray := ⟨_, rfl⟩
            rw [← hw8] at hcp
            have HM8 : Hid (RBuf w8 g (mix s.safe s.cached Q)) := by rw [hw8]; exact hb3.kept rfl
            have HB8 : Hid (Below wr.heap.size wr w8) := by rw [hw8]; exact below_setRow HBEL.out.drew HGG.out _
            have cell8 : ∀ (b0 j : Nat), b0 ≠ g → w8.cell? ⟨b0, j, none⟩ = w3.cell? ⟨b0, j, none⟩ := fun b0 j hne => by
              have : w8.heap[b0]? = w3.heap[b0]? := by rw [hw8]; exact setRow_other _ _ _ _ hne
              simp only [World.cell?, this]
            have hqg : q ≠ g := by have := (Array.getElem?_eq_some_iff.1 (HH.out.below HBi.out).head).1; have := HGG.out; omega
            have hCg : CB ≠ g := by
              intro e
              have h9 : CB < wr.heap.size := World.block_lt_of_cell? _ _ kCr
              have := HGG.out
              omega
            have S2 := hid (And.intro (show w3.drew.cell? ⟨q, 1, none⟩ = _ from f1) (show w3.drew.cell? ⟨CB, i, none⟩ = _ from kC))
            have S3 := hid (And.intro ((cell8 q 1 hqg).trans f1) ((cell8 CB i hCg).trans kC))
            have HCP := hid hcp
            have hQi : (Q : Int) ≤ (cap' : Int) := by have := HQ4.out; have := HCC.out; omega
            have hQ0 : (0 : Int) ≤ (Q : Int) := by omega
            have hcp0 : ¬ (cap' = 0) := by have := HCC.out; omega
            have hcp1 : Q ≤ cap' := by have := HQ4.out; have := HCC.out; omega
            have hsl : ∀ w, (Instr.slice 23 (.slice (some ⟨g, 0, none⟩) 64 cap') none (some (.int .u8 (Q : Int))) none).run Try.prog w = .ok (.slice (some ⟨g, 0, none⟩) Q cap') w := fun w => slice_to8 w _ _ _ _ hcp1
            have hwq : IntKind.u8.wrap (Q : Int) = (Q : Int) := by have := HQ4.out; exact wrap_u8 Q (by omega)
            clear hb3 hw8 hg3 hf3 hlT hrT hcp cell8 hqg hCg
            go_wp2_with (first | (have _t := tok; refine step_app 23 rfl _ _ rfl _ _ rfl rfl _ w3 HRUN.out ?_; clear tok))
            refine wp_region_held_drew (S := fun W => W.cell? ⟨q, 1, none⟩ = some (.slice (some ⟨CB, 0, none⟩) N kc) ∧ W.cell? ⟨CB, i, none⟩ = some (.slice (some ⟨cri, 0, none⟩) 64 cci)) (by kernel_rfl) S2.out (fun hHeld => ?_)
            refine take_op 0 (some 67) (.slice (some ⟨g, 0, none⟩) 64 cap') rfl rfl (by kernel_rfl) (by kernel_rfl) (by kernel_rfl) (fun _ _ _ h => h) (by rfl) hHeld (fun W hW => ?_) ?_
            · obtain ⟨hW1, hW2⟩ := hW
              clear hHeld
              go_simp
            simp only [Act.put, List.setIfInBounds_toArray, List.set_cons_zero, List.set_cons_succ]
            refine take_op 1 (some 68) (.int .u8 (X : Int)) rfl rfl (by kernel_rfl) (by kernel_rfl) (by kernel_rfl) (fun _ _ _ h => h) (by rfl) hHeld (fun W hW => ?_) ?_
            · obtain ⟨hW1, hW2⟩ := hW
              clear hHeld
              go_simp
            simp only [Act.put, List.setIfInBounds_toArray, List.set_cons_zero, List.set_cons_succ]
            refine take_op 2 (some 69) (.int .u8 (Q : Int)) rfl rfl (by kernel_rfl) (by kernel_rfl) (by kernel_rfl) (fun _ _ _ h => h) (by rfl) hHeld (fun W hW => ?_) ?_
            · obtain ⟨hW1, hW2⟩ := hW
              clear hHeld
              go_simp
            simp only [Act.put, List.setIfInBounds_toArray, List.set_cons_zero, List.set_cons_succ]
            refine take_op 3 (some 70) (.slice (some ⟨g, 0, none⟩) Q cap') rfl rfl (by kernel_rfl) (by kernel_rfl) (by kernel_rfl) (fun _ _ _ h => h) (by rfl) hHeld (fun W hW => ?_) ?_
            · obtain ⟨hW1, hW2⟩ := hW
              clear hHeld
              exact slice_run _ _ _ _ _ _ _ rfl rfl rfl hcp1
            simp only [Act.put, List.setIfInBounds_toArray, List.set_cons_zero, List.set_cons_succ]
            refine take_op 4 (some 71) (.pointer (some ⟨q, 0, none⟩)) rfl rfl (by kernel_rfl) (by kernel_rfl) (by kernel_rfl) (fun _ _ _ h => h) (by rfl) hHeld (fun W hW => ?_) ?_
            · obtain ⟨hW1, hW2⟩ := hW
              clear hHeld
              go_simp
            simp only [Act.put, List.setIfInBounds_toArray, List.set_cons_zero, List.set_cons_succ]
            refine take_op 5 (some 72) (.pointer (some ⟨q, 0, none⟩)) rfl rfl (by kernel_rfl) (by kernel_rfl) (by kernel_rfl) (fun _ _ _ h => h) (by rfl) hHeld (fun W hW => ?_) ?_
            · obtain ⟨hW1, hW2⟩ := hW
              clear hHeld
              go_simp
            simp only [Act.put, List.setIfInBounds_toArray, List.set_cons_zero, List.set_cons_succ]
            refine take_op 6 (some 73) (.pointer (some ⟨q, 1, none⟩)) rfl rfl (by kernel_rfl) (by kernel_rfl) (by kernel_rfl) (fun _ _ _ h => h) (by rfl) hHeld (fun W hW => ?_) ?_
            · obtain ⟨hW1, hW2⟩ := hW
              clear hHeld
              go_simp
            simp only [Act.put, List.setIfInBounds_toArray, List.set_cons_zero, List.set_cons_succ]
            refine take_op 7 (some 74) (.slice (some ⟨CB, 0, none⟩) N kc) rfl rfl (by kernel_rfl) (by kernel_rfl) (by kernel_rfl) (fun _ _ _ h => h) (by rfl) hHeld (fun W hW => ?_) ?_
            · obtain ⟨hW1, hW2⟩ := hW
              clear hHeld
              go_simp
            simp only [Act.put, List.setIfInBounds_toArray, List.set_cons_zero, List.set_cons_succ]
            refine take_op 8 (some 75) (.int .i64 (i : Int)) rfl rfl (by kernel_rfl) (by kernel_rfl) (by kernel_rfl) (fun _ _ _ h => h) (by rfl) hHeld (fun W hW => ?_) ?_
            · obtain ⟨hW1, hW2⟩ := hW
              clear hHeld
              go_simp
            simp only [Act.put, List.setIfInBounds_toArray, List.set_cons_zero, List.set_cons_succ]
            refine take_op 9 (some 76) (.pointer (some ⟨CB, i, none⟩)) rfl rfl (by kernel_rfl) (by kernel_rfl) (by kernel_rfl) (fun _ _ _ h => h) (by rfl) hHeld (fun W hW => ?_) ?_
            · obtain ⟨hW1, hW2⟩ := hW
              clear hHeld
              go_simp
            simp only [Act.put, List.setIfInBounds_toArray, List.set_cons_zero, List.set_cons_succ]
            refine take_op 10 (some 77) (.slice (some ⟨cri, 0, none⟩) 64 cci) rfl rfl (by kernel_rfl) (by kernel_rfl) (by kernel_rfl) (fun _ _ _ h => h) (by rfl) hHeld (fun W hW => ?_) ?_
            · obtain ⟨hW1, hW2⟩ := hW
              clear hHeld
              go_simp
            simp only [Act.put, List.setIfInBounds_toArray, List.set_cons_zero, List.set_cons_succ]
            refine ready_copy 11 (some 78) rfl rfl (by kernel_rfl) (by rfl) (.tmp 70) (.tmp 77) rfl g 0 Q cap' (some ⟨cri, 0, none⟩) 64 cci rfl rfl w8 Q HCP.out S3.out ?_
            clear hHeld
            simp only [Act.put, goInt, List.setIfInBounds_toArray, List.set_cons_zero, List.set_cons_succ]
            refine wpAnyH_done (by kernel_rfl) ?_ _
            clear S2 S3
            have hx8 := HXi.out.below HB8.out
            have hrow8 : Row w8.drew (some ⟨g, 0, none⟩) (mix s.safe s.cached Q) := HM8.out.row
            obtain ⟨g2, cap2, w9, hrun9, hbuf9, hbel9, hgg9, hcc9⟩ := append_nil w8.drew 23 _ _ cap' hrow8 HM8.out.2.1
            have hx8d := hx8.drew
            have hg8 : g < w8.heap.size := HM8.out.1.lt
            have hi8 : i < (part_ c d i).n := by rw [HHN.out]; exact hi
            obtain ⟨w10, hw10, hok10, hb10⟩ := rcrash_mem hx8d hi8 (by rw [HPS.out]; rfl) (HM8.out.kept (hbel9.block g hg8)) hbuf9 hbel9 ⟨HG3.out.1, hg8, HG3.out.2⟩ hgg9 ⟨HCC.out, hcc9⟩ (Nat.le_trans HBi.out.size HB8.out.size)
            have hx9 := hx8d.below hbel9
            obtain ⟨b1, b2, b3, b4, b5, b6⟩ := hx9.apart (by omega)
            obtain ⟨p0, p1, _, _, _, _, _⟩ := hx8.cells
            obtain ⟨r0, r1, _, _, _, _, _⟩ := hx9.cells
            obtain ⟨hfx, hcx, _⟩ := HAD.out
            rw [hfx] at p0 r0
            rw [hcx] at p1 r1
            have yF := (hx9.tf (by omega)).cell i hi8
            have yFF := (hx9.tf (by omega)).frozen i
            have tC4 := (hx9.tc (by omega)).other ⟨Ri.F, i, none⟩ (.slice (some ⟨g, 0, none⟩) 64 cap') (Ne.symm b6)
            have yC := tC4.cell i hi8
            have yFC := tC4.frozen i
            have cellq : ∀ (W W' : World) (j : Nat), W'.heap[x]? = W.heap[x]? → W'.cell? ⟨x, j, none⟩ = W.cell? ⟨x, j, none⟩ := fun W W' j e => by simp only [World.cell?, e]
            have q4 : (w9.setCell ⟨Ri.F, i, none⟩ (.slice (some ⟨g, 0, none⟩) 64 cap')).heap[x]? = w9.heap[x]? := Below.heap_setCell _ _ _ x b1
            have q5 : ((w9.setCell ⟨Ri.F, i, none⟩ (.slice (some ⟨g, 0, none⟩) 64 cap')).setCell ⟨Ri.C, i, none⟩ (.slice (some ⟨g2, 0, none⟩) 64 cap2)).heap[x]? = w9.heap[x]? := (Below.heap_setCell _ _ _ x b2).trans q4
            rw [HHN.out] at p0 p1 r0 r1
            have S2 := hid (And.intro (show w8.drew.cell? ⟨x, 0, none⟩ = _ from p0) (show w8.drew.cell? ⟨x, 1, none⟩ = _ from p1))
            have S3 := hid (And.intro r0 r1)
            have S4 := hid (And.intro ((cellq _ _ 0 q4).trans r0) ((cellq _ _ 1 q4).trans r1))
            have S5 := hid (And.intro ((cellq _ _ 0 q5).trans r0) ((cellq _ _ 1 q5).trans r1))
            have HREL : Hid (∃ R', RefOk w.heap.size w10 x R' (part_ c d (i + 1))) := by
              obtain ⟨R', hR'⟩ := hok10
              refine ⟨R', ?_⟩
              rw [← HTN.out, HCE.out]
              exact hR'
            have HBF : Hid (Below w.heap.size w w10) := HBi.out.trans ((HB8.out.mono HBi.out.size).trans ((Below.refl _ _).drew.trans hb10))
            have HW10 := hid hw10
            have HRUN9 := hid hrun9
            clear HH HR HC HX HB1 HBi HXi HBUF HBEL HGG HCC HCT HCS HRC HG3 HX3 HSO HTN HPS HNE HAD HR3 HHN HRUN HM8 HB8 HCE
            clear hx8 hrow8 hrun9 hbuf9 hbel9 hgg9 hcc9 hx8d hg8 hi8 hw10 hok10 hb10 hx9 b1 b2 b3 b4 b5 b6 p0 p1 r0 r1 hfx hcx tC4 cellq q4 q5 HST HCE0 HQ4 HCP kF kCr kD kC f1 f2 e0 e1 e2 hc0 hand htm hmod hbi hnn hq4 hd4 u1 hQi hQ0 hcp0 hcp1 hsl hwq
            generalize Ri.F = FX at *
            generalize Ri.C = CX at *
            generalize Ri.kf = kfx at *
            generalize Ri.kc = kcx at *
            go_wp2_with fail
            go_region_held_law (fun W => W.cell? ⟨x, 0, none⟩ = some (.slice (some ⟨FX, 0, none⟩) N kfx) ∧ W.cell? ⟨x, 1, none⟩ = some (.slice (some ⟨CX, 0, none⟩) N kcx)) (first | exact S2.out | exact S3.out | exact S4.out | exact S5.out) (refine step_app_region rfl _ _ rfl _ _ rfl rfl _ w9 HRUN9.out ?_)
            go_wp2_with fail
            go_roundg (gk - 1)
            case measure => omega
            case rel =>
              rw [← HW10.out]
              exact ⟨i + 1, by omega, by go_num, by rw [HCO.out]; go_num, HREL.out, HBF.out⟩
          · have u3 : ((r : Int) == 3) = false := by simp; omega
            have u3' : ¬ ((r : Int) = 3) := by omega
            have HCE : Hid (crashAt c d.secs i = ⟨s.safe, zeros, false⟩) := by show _ = _; rw [HCE0.out, HST.out, if_neg h1, if_neg h3, mix_zero]
            have HM8 := HBUF
            have HB8 := HBEL
            clear h1 h3
            go_wp2_with (first | (have _t := tok; refine step_app 23 rfl _ _ rfl _ _ rfl rfl _ w3 HRUN.out ?_; clear tok))
            have hx8 := HXi.out.below HB8.out
            have hrow8 : Row w3.drew (some ⟨g, 0, none⟩) (s.safe) := HM8.out.row
            obtain ⟨g2, cap2, w9, hrun9, hbuf9, hbel9, hgg9, hcc9⟩ := append_nil w3.drew 23 _ _ cap' hrow8 HM8.out.2.1
            have hx8d := hx8.drew
            have hg8 : g < w3.heap.size := HM8.out.1.lt
            have hi8 : i < (part_ c d i).n := by rw [HHN.out]; exact hi
            obtain ⟨w10, hw10, hok10, hb10⟩ := rcrash_mem hx8d hi8 (by rw [HPS.out]; rfl) (HM8.out.kept (hbel9.block g hg8)) hbuf9 hbel9 ⟨HG3.out.1, hg8, HG3.out.2⟩ hgg9 ⟨HCC.out, hcc9⟩ (Nat.le_trans HBi.out.size HB8.out.size)
            have hx9 := hx8d.below hbel9
            obtain ⟨b1, b2, b3, b4, b5, b6⟩ := hx9.apart (by omega)
            obtain ⟨p0, p1, _, _, _, _, _⟩ := hx8.cells
            obtain ⟨r0, r1, _, _, _, _, _⟩ := hx9.cells
            obtain ⟨hfx, hcx, _⟩ := HAD.out
            rw [hfx] at p0 r0
            rw [hcx] at p1 r1
            have yF := (hx9.tf (by omega)).cell i hi8
            have yFF := (hx9.tf (by omega)).frozen i
            have tC4 := (hx9.tc (by omega)).other ⟨Ri.F, i, none⟩ (.slice (some ⟨g, 0, none⟩) 64 cap') (Ne.symm b6)
            have yC := tC4.cell i hi8
            have yFC := tC4.frozen i
            have cellq : ∀ (W W' : World) (j : Nat), W'.heap[x]? = W.heap[x]? → W'.cell? ⟨x, j, none⟩ = W.cell? ⟨x, j, none⟩ := fun W W' j e => by simp only [World.cell?, e]
            have q4 : (w9.setCell ⟨Ri.F, i, none⟩ (.slice (some ⟨g, 0, none⟩) 64 cap')).heap[x]? = w9.heap[x]? := Below.heap_setCell _ _ _ x b1
            have q5 : ((w9.setCell ⟨Ri.F, i, none⟩ (.slice (some ⟨g, 0, none⟩) 64 cap')).setCell ⟨Ri.C, i, none⟩ (.slice (some ⟨g2, 0, none⟩) 64 cap2)).heap[x]? = w9.heap[x]? := (Below.heap_setCell _ _ _ x b2).trans q4
            rw [HHN.out] at p0 p1 r0 r1
            have S2 := hid (And.intro (show w3.drew.cell? ⟨x, 0, none⟩ = _ from p0) (show w3.drew.cell? ⟨x, 1, none⟩ = _ from p1))
            have S3 := hid (And.intro r0 r1)
            have S4 := hid (And.intro ((cellq _ _ 0 q4).trans r0) ((cellq _ _ 1 q4).trans r1))
            have S5 := hid (And.intro ((cellq _ _ 0 q5).trans r0) ((cellq _ _ 1 q5).trans r1))
            have HREL : Hid (∃ R', RefOk w.heap.size w10 x R' (part_ c d (i + 1))) := by
              obtain ⟨R', hR'⟩ := hok10
              refine ⟨R', ?_⟩
              rw [← HTN.out, HCE.out]
              exact hR'
            have HBF : Hid (Below w.heap.size w w10) := HBi.out.trans ((HB8.out.mono HBi.out.size).trans ((Below.refl _ _).drew.trans hb10))
            have HW10 := hid hw10
            have HRUN9 := hid hrun9
            clear HH HR HC HX HB1 HBi HXi HBUF HBEL HGG HCC HCT HCS HRC HG3 HX3 HSO HTN HPS HNE HAD HR3 HHN HRUN HM8 HB8 HCE
            clear hx8 hrow8 hrun9 hbuf9 hbel9 hgg9 hcc9 hx8d hg8 hi8 hw10 hok10 hb10 hx9 b1 b2 b3 b4 b5 b6 p0 p1 r0 r1 hfx hcx tC4 cellq q4 q5 HST HCE0 HQ4 kF kCr kD kC f1 f2 e0 e1 e2 hc0 hand htm hmod hbi hnn hq4 hd4 u1 u3
            generalize Ri.F = FX at *
            generalize Ri.C = CX at *
            generalize Ri.kf = kfx at *
            generalize Ri.kc = kcx at *
            go_wp2_with fail
            go_region_held_law (fun W => W.cell? ⟨x, 0, none⟩ = some (.slice (some ⟨FX, 0, none⟩) N kfx) ∧ W.cell? ⟨x, 1, none⟩ = some (.slice (some ⟨CX, 0, none⟩) N kcx)) (first | exact S2.out | exact S3.out | exact S4.out | exact S5.out) (refine step_app_region rfl _ _ rfl _ _ rfl rfl _ w9 HRUN9.out ?_)
            go_wp2_with fail
            go_roundg (gk - 1)
            case measure => omega
            case rel =>
              rw [← HW10.out]
              exact ⟨i + 1, by omega, by go_num, by rw [HCO.out]; go_num, HREL.out, HBF.out⟩
    · have hii : ¬ (i : Int) < (d.n : Int) := by omega
      obtain hie : i = d.n := by omega
      have HIE := hid hie
      clear hie hx hb hh e0 e2
      go_wp2_with fail
      go_ret
      refine ⟨x, rfl, ⟨Ri, ?_⟩, HBi.out⟩
      have := HXi.out
      rw [HIE.out, part_done] at this
      exact this
end Go.Proofs.Ytoniolndoidkcaa
