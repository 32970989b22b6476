/- What Load and More of log do. Condition: the disk has the segments and is not dead. -/
import Derived.Test.YteohjfhflodklaaLogS
namespace Go.Proofs.Yteohjfhflodklaa
open Go.RowKit Pen
open Crc (four nx run)
set_option maxRecDepth 4000
theorem call38 (args : Array Value) (W : World) : (callFunc 38 args).run Try.prog W = .ok (.enter 38 args) W := by rfl
theorem call39 (args : Array Value) (W : World) : (callFunc 39 args).run Try.prog W = .ok (.enter 39 args) W := by rfl
theorem fits38 (W : World) (b : Int) : Calls Try.prog 38 (#[.int .i64 b] ++ #[]) W fun r W' => r = .returned (.bool true) ∧ W' = W := by
  show Calls Try.prog 38 #[.int .i64 b] W _
  go_enter Try.func38, Try.ntmps38
  go_wp2_with fail
  go_ret
  exact ⟨rfl, rfl⟩
theorem fits39 {W : World} {g q n last lb y0 y1 : Nat} {segs : List Nat} (h : LogAt W g q segs n last lb) (ask : Int) (b : Nat) (h0 : W.cell? ⟨y0, 0, none⟩ = some (.pointer (some ⟨g, 0, none⟩))) (h1 : W.cell? ⟨y1, 0, none⟩ = some (.int .i64 ask)) :
    Calls Try.prog 39 (#[.int .i64 (b : Int)] ++ #[.pointer (some ⟨y1, 0, none⟩), .pointer (some ⟨y0, 0, none⟩)]) W fun r W' => r = .returned (.bool (decide (ask ≤ (b : Int)) && decide (lb ≤ b))) ∧ W' = W := by
  show Calls Try.prog 39 #[.int .i64 (b : Int), .pointer (some ⟨y1, 0, none⟩), .pointer (some ⟨y0, 0, none⟩)] W _
  have c4 := h.c4
  clear h
  by_cases ha : ask ≤ (b : Int)
  · by_cases hl : lb ≤ b
    · have HV : Hid ((decide (ask ≤ (b : Int)) && decide (lb ≤ b)) = true) := by show _ = _; rw [decide_eq_true ha, decide_eq_true hl]; rfl
      have hl' : (lb : Int) ≤ (b : Int) := by omega
      clear hl
      rw [HV.out]
      go_enter Try.func39, Try.ntmps39
      go_wp2_with fail
      go_ret
      exact ⟨rfl, rfl⟩
    · have HV : Hid ((decide (ask ≤ (b : Int)) && decide (lb ≤ b)) = false) := by show _ = _; rw [decide_eq_false hl, Bool.and_false]
      have hl' : ¬ (lb : Int) ≤ (b : Int) := by omega
      clear hl
      rw [HV.out]
      go_enter Try.func39, Try.ntmps39
      go_wp2_with fail
      go_ret
      exact ⟨rfl, rfl⟩
  · have HV : Hid ((decide (ask ≤ (b : Int)) && decide (lb ≤ b)) = false) := by show _ = _; rw [decide_eq_false ha, Bool.false_and]
    rw [HV.out]
    go_enter Try.func39, Try.ntmps39
    go_wp2_with fail
    go_ret
    exact ⟨rfl, rfl⟩
/-- What a Load answers. -/
def Loaded (q : Nat) (d : Dk) (segs : List Nat) (L last : Nat) (w w' : World) (e : Ending) : Prop :=
  Below w.heap.size w w' ∧
  ((L ≤ 8 * segs.length ∧ lenOf (scan (fun _ _ => true) (pl d segs) L 0 0 0 L) = L ∧ lastOf 0 (scan (fun _ _ => true) (pl d segs) L 0 0 0 L) = last ∧ ∃ g v, e = .returned (.tuple #[.pointer (some ⟨g, 0, none⟩), v, .int .i64 0]) ∧ w.heap.size ≤ g ∧
      LogAt w' g q segs L last (bootOf 0 (scan (fun _ _ => true) (pl d segs) L 0 0 0 L)) ∧ ∃ base, w.heap.size ≤ base ∧ Recs (fun b => base ≤ b) base w' v ((scan (fun _ _ => true) (pl d segs) L 0 0 0 L).map (·.2)))
   ∨ (¬ (L ≤ 8 * segs.length ∧ lenOf (scan (fun _ _ => true) (pl d segs) L 0 0 0 L) = L ∧ lastOf 0 (scan (fun _ _ => true) (pl d segs) L 0 0 0 L) = last) ∧ e = .returned (.tuple #[.pointer none, .slice none 0 0, .int .i64 13])))
theorem load36 {w : World} {y : Nat} {v0 v1 v2 : Value} (h : w.heap[y]? = some (.cells #[v0, v1, v2] 36 (0, 0))) : (Instr.loadAt 36 (.pointer (some ⟨y, 0, none⟩))).run Try.prog w = .ok (.agg #[v0, v1, v2]) w := by
  refine run_loadAt_mid w y 0 36 [v0, v1, v2] _ (fun j v hv => ?_) Try.underlying36 rfl (by exact size36)
  rw [Nat.zero_add, cell_of_row w y _ _ 36 (0, 0) h]
  simpa using hv
set_option maxRecDepth 10000 in
set_option maxHeartbeats 4000000 in
theorem load_any {w : World} {q p : Nat} {d : Dk} (h : DiskAt w q p d) (hdead : d.dead = false) (segs : List Nat) (a : Option Addr) (k c : Nat) (L last : Nat) (hk : segs.length = k) (hr : IRow w a (iv segs)) (hs : Has d segs) (hk1 : k ≤ 96) (hz : a = none → c = 0) :
    Calls Try.prog 18 #[.pointer (some ⟨q, 0, none⟩), .agg #[.slice a k c, .int .i64 (L : Int), .int .u32 (last : Int)]] w fun e w' => Loaded q d segs L last w w' e := by
  have HW0 : Hid (Below w.heap.size w (w.alloc (.cells #[.slice a k c, .int .i64 (L : Int), .int .u32 (last : Int)] 36))) := (Below.refl _ w).alloc (Nat.le_refl _) _
  have HD := hid (h.below HW0.out)
  have HR := hid (hr.below HW0.out)
  have hst : (w.alloc (.cells #[.slice a k c, .int .i64 (L : Int), .int .u32 (last : Int)] 36)).heap[w.heap.size]? = some (.cells #[.slice a k c, .int .i64 (L : Int), .int .u32 (last : Int)] 36 (0, 0)) := heap_alloc_new w _
  have hsz0 : (w.alloc (.cells #[.slice a k c, .int .i64 (L : Int), .int .u32 (last : Int)] 36)).heap.size = w.heap.size + 1 := by simp
  have HS := hid hs
  have HK := hid hk
  have HZ := hid hz
  have HST := hid hst
  have HDE := hid hdead
  clear h hr hs hk hz hdead
  go_enter Try.func18, Try.ntmps18
  go_wp2_with fail
  generalize w.alloc (.cells #[.slice a k c, .int .i64 (L : Int), .int .u32 (last : Int)] 36) = W0 at *
  refine (dead_any HD.out).mono ?_
  rintro e w1 ⟨rfl, rfl⟩
  rw [HDE.out]
  have k0 : w1.cell? ⟨w.heap.size, 0, none⟩ = some (.slice a k c) := by rw [cell_of_row w1 _ 0 _ 36 (0, 0) hst]; rfl
  have k1 : w1.cell? ⟨w.heap.size, 1, none⟩ = some (.int .i64 (L : Int)) := by rw [cell_of_row w1 _ 1 _ 36 (0, 0) hst]; rfl
  have k2 : w1.cell? ⟨w.heap.size, 2, none⟩ = some (.int .u32 (last : Int)) := by rw [cell_of_row w1 _ 2 _ 36 (0, 0) hst]; rfl
  have hld := load36 hst
  clear hst
  go_wp2_with fail
  refine (lies_any HD.out segs a k c L last HK.out HR.out HS.out hk1).mono ?_
  rintro e w2 ⟨rfl, hb2⟩
  have K0 := (hb2.cell (p := ⟨w.heap.size, 0, none⟩) (show w.heap.size < _ by omega)).trans k0
  have K1 := (hb2.cell (p := ⟨w.heap.size, 1, none⟩) (show w.heap.size < _ by omega)).trans k1
  have K2 := (hb2.cell (p := ⟨w.heap.size, 2, none⟩) (show w.heap.size < _ by omega)).trans k2
  have HB2 := hid (below_tr HW0.out hb2 (by omega))
  have hs2 := hb2.size
  have HR2 := hid (HR.out.below hb2)
  have HD2 := hid (HD.out.below hb2)
  clear k0 k1 k2 hld hb2
  by_cases hL : L ≤ 8 * k
  · have hL' : decide (L ≤ 8 * k) = true := by simp [hL]
    rw [hL']
    go_wp2_with fail
    refine (iclone_any a (iv segs) k c (by rw [iv_len, HK.out]) HZ.out HR2.out (by omega)).mono ?_
    rintro e w3 ⟨b3, c3, rfl, hr3, hc3, hm3, hz3, hb3⟩
    have K0 := (hb3.cell (p := ⟨w.heap.size, 0, none⟩) (show w.heap.size < _ by omega)).trans K0
    have K1 := (hb3.cell (p := ⟨w.heap.size, 1, none⟩) (show w.heap.size < _ by omega)).trans K1
    have K2 := (hb3.cell (p := ⟨w.heap.size, 2, none⟩) (show w.heap.size < _ by omega)).trans K2
    have hs3 := hb3.size
    have hbA : Below w3.heap.size w3 (w3.alloc (.cells #[.pointer (some ⟨q, 0, none⟩), .slice b3 k c3, .int .i64 0, .int .u32 0, .int .i64 0] 71)) := (Below.refl _ _).alloc (Nat.le_refl _) _
    have J1 : (w3.alloc (.cells #[.pointer (some ⟨q, 0, none⟩), .slice b3 k c3, .int .i64 0, .int .u32 0, .int .i64 0] 71)).cell? ⟨w.heap.size, 1, none⟩ = some (.int .i64 (L : Int)) := (hbA.cell (p := ⟨w.heap.size, 1, none⟩) (show w.heap.size < _ by omega)).trans K1
    have J2 : (w3.alloc (.cells #[.pointer (some ⟨q, 0, none⟩), .slice b3 k c3, .int .i64 0, .int .u32 0, .int .i64 0] 71)).cell? ⟨w.heap.size, 2, none⟩ = some (.int .u32 (last : Int)) := (hbA.cell (p := ⟨w.heap.size, 2, none⟩) (show w.heap.size < _ by omega)).trans K2
    have HLA : Hid (LogAt (w3.alloc (.cells #[.pointer (some ⟨q, 0, none⟩), .slice b3 k c3, .int .i64 0, .int .u32 0, .int .i64 0] 71)) w3.heap.size q segs 0 0 0) := ⟨⟨b3, c3, by rw [HK.out]; exact heap_alloc_new _ _, hr3.below hbA, by rw [HK.out]; exact hc3, hm3, hz3⟩, fun s hs => (HS.out s hs).1, by rw [HK.out]; exact hk1, by decide, by decide, by decide⟩
    have HBA := hid (below_tr (below_tr HB2.out hb3 (by omega)) hbA (by omega))
    have HDA := hid ((HD2.out.below hb3).below hbA)
    have hsA : (w3.alloc (.cells #[.pointer (some ⟨q, 0, none⟩), .slice b3 k c3, .int .i64 0, .int .u32 0, .int .i64 0] 71)).heap.size = w3.heap.size + 1 := by simp
    clear hr3 hc3 hm3 hz3 hb3 hbA HB2 HR2 HD2 HR HD
    go_wp2_with fail
    generalize w3.alloc (.cells #[.pointer (some ⟨q, 0, none⟩), .slice b3 k c3, .int .i64 0, .int .u32 0, .int .i64 0] 71) = WA at *
    refine (scan_any HLA.out HDA.out HDE.out HS.out L L (by rw [HK.out]; exact hL) (by omega) (fun _ _ => true) 38 #[] call38 (fun W _ _ _ b _ _ _ => fits38 W (b : Int))).mono ?_
    rintro e w4 ⟨v, rfl, hre, hL4, hb4, _⟩
    have HRE := hid hre
    have HL4 := hid hL4
    have J1 := (hb4.cell w.heap.size 1 (by omega) (by omega)).trans J1
    have J2 := (hb4.cell w.heap.size 2 (by omega) (by omega)).trans J2
    have HB4 := hid (below_tr' HBA.out (hb4.below (base := w.heap.size) (fun k e => by omega) (by omega)))
    have d2 := hL4.c2
    have d3 := hL4.c3
    rw [Nat.zero_add] at d2 HL4
    generalize hG : scan (fun _ _ => true) (pl d segs) L 0 0 0 L = G at *
    have HG := hid hG
    obtain ⟨a9, c9, rfl⟩ := hre.slice
    have hrl : (G.map (·.2)).length = G.length := List.length_map ..
    rw [hrl] at HRE ⊢
    clear hre hL4 hb4 hG HLA HDA HBA hrl
    by_cases h1 : lenOf G = L
    · by_cases h2 : lastOf 0 G = last
      · have e1 : (((lenOf G : Nat) : Int) != (L : Int)) = false := by simp [h1]
        have e2 : (((lastOf 0 G : Nat) : Int) != (last : Int)) = false := by simp [h2]
        have H12 := hid (And.intro h1 h2)
        clear h1 h2
        go_wp2_with fail
        go_quiet (fail)
        have hbq : Below w4.heap.size w4 (w4.drewN nq) := ⟨rfl, rfl, rfl, Nat.le_refl _, fun _ _ => rfl⟩
        have HQ1 := hid (HRE.out.below hbq)
        have HQ2 := hid (HL4.out.below hbq)
        have HQ3 := hid (below_tr HB4.out hbq HB4.out.size)
        generalize w4.drewN nq = w5 at *
        clear hbq J1 J2
        go_wp2_with fail
        refine bodyPost_ret (results_tmp3 rfl _ _ _) rfl ?_
        unfold Loaded
        rw [HG.out]
        refine ⟨HQ3.out, .inl ⟨by rw [HK.out]; exact hL, H12.out.1, H12.out.2, _, _, rfl, by omega, ?_, _, ?_, HQ1.out⟩⟩
        · have := HQ2.out
          rwa [H12.out.1, H12.out.2] at this
        · omega
      · have e1 : (((lenOf G : Nat) : Int) != (L : Int)) = false := by simp [h1]
        have e2 : (((lastOf 0 G : Nat) : Int) != (last : Int)) = true := by simp; omega
        have H12 : Hid (¬ (L ≤ 8 * segs.length ∧ lenOf G = L ∧ lastOf 0 G = last)) := fun h => h2 h.2.2
        clear h1 h2
        go_wp2_with fail
        go_quiet (fail)
        have hbq : Below w4.heap.size w4 (w4.drewN nq) := ⟨rfl, rfl, rfl, Nat.le_refl _, fun _ _ => rfl⟩
        have HQ3 := hid (below_tr HB4.out hbq HB4.out.size)
        generalize w4.drewN nq = w5 at *
        clear hbq J1 J2
        go_wp2_with fail
        refine bodyPost_ret (results_tmp3 rfl _ _ _) rfl ?_
        unfold Loaded
        rw [HG.out]
        exact ⟨HQ3.out, .inr ⟨H12.out, rfl⟩⟩
    · have e1 : (((lenOf G : Nat) : Int) != (L : Int)) = true := by simp; omega
      have H12 : Hid (¬ (L ≤ 8 * segs.length ∧ lenOf G = L ∧ lastOf 0 G = last)) := fun h => h1 h.2.1
      clear h1
      go_wp2_with fail
      go_quiet (fail)
      have hbq : Below w4.heap.size w4 (w4.drewN nq) := ⟨rfl, rfl, rfl, Nat.le_refl _, fun _ _ => rfl⟩
      have HQ3 := hid (below_tr HB4.out hbq HB4.out.size)
      generalize w4.drewN nq = w5 at *
      clear hbq J1 J2
      go_wp2_with fail
      refine bodyPost_ret (results_tmp3 rfl _ _ _) rfl ?_
      unfold Loaded
      rw [HG.out]
      exact ⟨HQ3.out, .inr ⟨H12.out, rfl⟩⟩
  · have hL' : decide (L ≤ 8 * k) = false := by simp; omega
    rw [hL']
    have H12 : Hid (¬ (L ≤ 8 * segs.length ∧ lenOf (scan (fun _ _ => true) (pl d segs) L 0 0 0 L) = L ∧ lastOf 0 (scan (fun _ _ => true) (pl d segs) L 0 0 0 L) = last)) := fun h => hL (by rw [← HK.out]; exact h.1)
    go_wp2_with fail
    refine bodyPost_ret (results_tmp3 rfl _ _ _) rfl ?_
    exact ⟨HB2.out, .inr ⟨H12.out, rfl⟩⟩
end Go.Proofs.Yteohjfhflodklaa
