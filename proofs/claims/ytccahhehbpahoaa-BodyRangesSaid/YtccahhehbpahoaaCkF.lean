/- What find of a store answers. Condition: a text of 1 to 64 bytes. -/
import Derived.Test.YtccahhehbpahoaaCkA
namespace Go.Proofs.Ytccahhehbpahoaa
open Go.ChangeShapes Go.WideShapes Go.ChangeAt Go.RowKit
open Go.Maps (keyOf_int_mk)
open Crc (nx nx_lt sum_any)
set_option maxRecDepth 4000
set_option linter.unusedVariables false
attribute [local go_sem ↓] Go.wp_at_zero Go.wp_at_succ
set_option maxHeartbeats 400000 in
theorem find_any {base : Nat} {w : World} {q n : Nat} {s : St} (h : CkAt base w q n s) (a : Option Addr) (l : List Nat) (m cap : Nat) (hm : l.length = m) (hr : Row w a l) (hl : m ≤ 64) (hn : n ≤ 1000000) (hls : s.last < 9000000000000000001) :
    Calls Try.prog 39 #[.pointer (some ⟨q, 0, none⟩), .slice a m cap] w fun e w' => e = .returned (.tuple #[.int .i64 (((byText s.ps l).getD 0 : Nat) : Int), .bool (byText s.ps l).isSome]) ∧ Below w.heap.size w w' := by
  obtain ⟨P, N, c0, c1, c2, cf, hmp, hq⟩ := h.cells
  have hlt := h.lt
  obtain ⟨v, hv, hlook⟩ := hmp.num (nx 0 l) (u32_wf (nx_lt 0 l))
  obtain ⟨b, cc, rfl, hir, _⟩ := irow_of_owns hv
  have hlen : (those s.ps ((nx 0 l : Nat) : Int)).length ≤ n := Nat.le_trans (those_le _ _) h.few
  have HV := hid hv
  have HIR := hid hir
  have HMP := hid hmp
  have HOK := hid h.ok
  have HR := hid hr
  have HM := hid hm
  have ksum : ∀ W, Below w.heap.size w W → Calls Try.prog 47 #[.slice a m cap] W fun e w' => e = .returned (.int .u32 (nx 0 l : Nat)) ∧ Below w.heap.size w w' := fun W hW => by
    have := sum_any a l cap W (hr.below hW) (by omega)
    rw [hm] at this
    refine this.mono ?_
    rintro e w' ⟨h1, h2⟩
    exact ⟨h1, hW.trans (h2.mono hW.size)⟩
  have HS := hid ksum
  have d1 : ∀ W, Below w.heap.size w W → W.cell? ⟨q, 1, none⟩ = some (.map N) := fun W hW => (hW.cell (p := ⟨q, 1, none⟩) hlt).trans c1
  have HD1 := hid d1
  have HL := hid hlook
  have HLS := hid hls
  have HD0 := hid (fun W (hW : Below w.heap.size w W) => (hW.cell (p := ⟨q, 0, none⟩) hlt).trans c0)
  obtain ⟨k, hk⟩ : ∃ k, (those s.ps ((nx 0 l : Nat) : Int)).length = k := ⟨_, rfl⟩
  have HK := hid hk
  rw [hk] at hlook hlen HL
  generalize hc : nx 0 l = c at *
  have HC := hid hc
  clear hmp hir hv hq c0 c1 c2 cf h ksum hr hm hk hc hls
  go_enter Try.func39, Try.ntmps39
  go_wp2_with fail
  have hz := (Below.refl w.heap.size w).drew
  go_region_held (fun W => Below w.heap.size w W) (first | assumption) (first | (go_at_call 47; refine (HS.out _ (by assumption)).mono ?_; rintro e w1 ⟨rfl, hb1⟩))
  have HB1 := hid hb1
  clear hz hb1 hlook d1
  go_wp2_with fail
  go_loopg [16] k (fun gk v16 wr => ∃ i : Nat, i + gk = k ∧ v16 = .int .i64 (i : Int) ∧ wr = w1 ∧ Hid (∀ j (hj : j < (ofSum s.ps (c : Int)).length), j < i → ((ofSum s.ps (c : Int))[j]).2 ≠ l))
  case atStart => exact ⟨0, by omega, rfl, rfl, hid (fun j _ hj => absurd hj (Nat.not_lt_zero _))⟩
  case round =>
    obtain ⟨i, hi, rfl, rfl, hno⟩ := hrel
    by_cases hlt' : i < k
    · have g1 : (i : Int) < (k : Int) := by omega
      have hi2 : i < (ofSum s.ps (c : Int)).length := by rw [← those_len, HK.out]; exact hlt'
      obtain ⟨bb, off, rfl, hbb, hcell⟩ := HIR.out.cell (by intro e; have := HK.out; rw [e] at this; simp at this; omega)
      have hc1 := (HB1.out.cell (p := ⟨bb, off + i, none⟩) hbb).trans (hcell i (by rw [HK.out]; exact hlt'))
      rw [those_get hi2] at hc1
      have hp := List.getElem_mem hi2
      have HP : Hid (byText s.ps l = none ∨ True) := .inr trivial
      generalize hpe : (ofSum s.ps (c : Int))[i] = p at *
      have hps := ofSum_mem hp
      have hpos := HOK.out.pos p hps
      have hid1 := byId_mem HOK.out.ids hps
      have htx1 := byText_mem HOK.out.txt hps
      obtain ⟨v2, _, hv2, hlk⟩ := HMP.out.piece (p.1 : Int) (i64_wf (by omega) (by have := hpos.2.1; have := HLS.out; omega))
      obtain ⟨g, cg, rfl, hog⟩ := hv2 _ hid1
      have hrg := (row_of_owns' rfl hog hpos.2.2.2.2).2
      have hlk2 := (hlk _ HB1.out).2
      have keq := equal_any (w := wr) (some ⟨g, 0, none⟩) a p.2 l p.2.length m cg cap rfl HM.out (hrg.below HB1.out) (HR.out.below HB1.out)
      have hc0 := HD0.out _ HB1.out
      have HPE := hid hpe
      have HTX := hid htx1
      clear hcell hv2 hlk hog hrg hid1 htx1 hps hp hpos hpe
      by_cases hq : p.2 = l
      · have e : decide (p.2 = l) = true := by simp [hq]
        rw [e] at keq
        have HQ := hid hq
        clear e hq
        obtain ⟨pid, hpid⟩ : ∃ pid, p.1 = pid := ⟨_, rfl⟩
        obtain ⟨pl, hpl⟩ : ∃ pl, p.2.length = pl := ⟨_, rfl⟩
        have HPI := hid hpid
        rw [hpid] at hc1 hlk2
        rw [hpl] at hlk2 keq
        clear hpid hpl
        go_wp2_with fail
        refine keq.mono ?_
        rintro e w2 ⟨rfl, rfl⟩
        go_wp2_with fail
        go_ret2
        have := HTX.out
        rw [HQ.out, HPI.out] at this
        rw [this]
        exact ⟨rfl, HB1.out⟩
      · have e : decide (p.2 = l) = false := by simp [hq]
        rw [e] at keq
        have HQ := hid hq
        clear e hq
        obtain ⟨pid, hpid⟩ : ∃ pid, p.1 = pid := ⟨_, rfl⟩
        obtain ⟨pl, hpl⟩ : ∃ pl, p.2.length = pl := ⟨_, rfl⟩
        rw [hpid] at hc1 hlk2
        rw [hpl] at hlk2 keq
        clear hpid hpl
        go_wp2_with fail
        refine keq.mono ?_
        rintro e w2 ⟨rfl, rfl⟩
        go_wp2_with fail
        go_roundg (gk - 1)
        case measure => omega
        case rel =>
          refine ⟨i + 1, by omega, by go_num, rfl, hid (fun j hj hji => ?_)⟩
          by_cases e : j = i
          · subst e
            rw [HPE.out]
            exact HQ.out
          · exact hno.out j hj (by omega)
    · have g1 : ¬ (i : Int) < (k : Int) := by omega
      have hno' : byText s.ps l = none := ofSum_miss (fun j hj => by rw [HC.out] at hj; have := hno.out j hj (by rw [← those_len, HK.out] at hj; omega); simp only [HC.out]; exact this)
      have HNO := hid hno'
      clear hno'
      go_wp2_with fail
      go_ret2
      rw [HNO.out]
      exact ⟨rfl, HB1.out⟩
end Go.Proofs.Ytccahhehbpahoaa
