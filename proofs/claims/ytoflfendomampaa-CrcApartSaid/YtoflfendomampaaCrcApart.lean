/- Proved: the law 'CrcApart' (two texts of one length that are unlike in up to four bytes one behind another have unlike sums) answers true, and what came in reads as it did. No condition. -/
import Derived.Test.YtoflfendomampaaOwn
import Derived.Test.YtoflfendomampaaLin
import Derived.Deep.RegionHeld
import Derived.Laws.IdiomArrays
import Derived.Deep.DrawnRows
namespace Go.Proofs.Ytoflfendomampaa
open Go.ChangeShapes Go.WideShapes Go.ChangeAt Go.RowKit Crc
attribute [local go_sem ↓] Go.wp_at_zero Go.wp_at_succ
set_option linter.unusedVariables false

theorem patch_set (l D : List Nat) (k i : Nat) (hi : i < D.length) (hk : k + i < l.length) :
    (l.take k ++ D.take i ++ l.drop (k + i)).set (k + i) (D.getD i 0) = l.take k ++ D.take (i + 1) ++ l.drop (k + (i + 1)) := by
  have hl : (l.take k ++ D.take i).length = k + i := by simp; omega
  rw [List.set_append_right _ _ (by omega), hl, Nat.sub_self, List.drop_eq_getElem_cons hk, List.set_cons_zero, List.take_succ_eq_append_getElem hi, List.getD_eq_getElem?_getD, List.getElem?_eq_getElem hi]
  simp only [Nat.add_assoc, List.append_assoc, Option.getD_some]
  rfl
theorem strOf_inj : ∀ (a b : List Nat), a.length = b.length → (∀ x ∈ a, x < 256) → (∀ x ∈ b, x < 256) → (strOf a).data.toList = (strOf b).data.toList → a = b := by
  have key : ∀ (l : List Nat) (s : ByteArray), ((l.map fun n : Nat => (n : Int)).foldl (fun r n => r.push (UInt8.ofNat n.toNat)) s).data.toList = s.data.toList ++ l.map UInt8.ofNat := by
    intro l
    induction l with
    | nil => intro s; simp
    | cons x l ih =>
      intro s
      simp only [List.map_cons, List.foldl_cons, ih]
      simp [ByteArray.push]
  intro a b hl ha hb h
  unfold strOf at h
  rw [key, key] at h
  simp only [List.append_cancel_left_eq] at h
  apply List.ext_getElem hl
  intro i h1 h2
  have e := congrArg (fun l => l[i]?) h
  simp only [List.getElem?_map, List.getElem?_eq_getElem h1, List.getElem?_eq_getElem h2, Option.map_some, Option.some.injEq] at e
  have e2 := congrArg UInt8.toNat e
  have b1 := ha _ (List.getElem_mem h1)
  have b2 := hb _ (List.getElem_mem h2)
  simp at e2
  omega
theorem both_same {s0 s1 : Nat} {q1 q2 : ByteArray} {l M : List Nat} (h : (s0 = s1 ↔ l = M) ∧ (q1.data.toList = q2.data.toList ↔ l = M)) : (((s0 : Int) == (s1 : Int)) == (q1.toList == q2.toList)) = true := by
  rw [ByteArray.toList_eq, ByteArray.toList_eq]
  by_cases hl : l = M
  · have h1 := h.1.2 hl
    have h2 := h.2.2 hl
    rw [h1, h2]
    simp
  · have h1 : ¬ s0 = s1 := fun e => hl (h.1.1 e)
    have h2 : ¬ q1.data.toList = q2.data.toList := fun e => hl (h.2.1 e)
    have e1 : ((s0 : Int) == (s1 : Int)) = false := by simp; omega
    have e2 : (q1.data.toList == q2.data.toList) = false := beq_eq_false_iff_ne.2 h2
    rw [e1, e2]
    rfl
theorem ret_bool {a b : Bool} (h : a = b) : Ending.returned (.bool a) = .returned (.bool b) := by rw [h]

set_option maxHeartbeats 1000000 in
theorem crcApart_walk (b off : Nat) (l : List Nat) (cap cut d0 d1 d2 d3 : Nat) (w : World) (hcut : cut < 65536) (r0 : Row w (some ⟨b, off, none⟩) l) (k0 : l.length ≤ cap) (hl : l.length ≤ 3000) (hl0 : 0 < l.length)
    (q0 : d0 < 256) (q1 : d1 < 256) (q2 : d2 < 256) (q3 : d3 < 256) :
    Calls Try.prog 6 #[.slice (some ⟨b, off, none⟩) l.length cap, .int .u16 (cut : Int), .agg #[.int .u8 (d0 : Int), .int .u8 (d1 : Int), .int .u8 (d2 : Int), .int .u8 (d3 : Int)]] w fun e w' => e = .returned (.bool true) ∧ Below w.heap.size w w' := by
  obtain ⟨n, hn⟩ : ∃ n, l.length = n := ⟨_, rfl⟩
  obtain ⟨i5, hi5, hz5, hs5, hy5⟩ := info5'
  have HI5 : Hid (Try.prog.info? 5 = some i5 ∧ i5.zero = some (.int .u8 0) ∧ i5.size = 1 ∧ i5.bytes = 1) := ⟨hi5, hz5, hs5, hy5⟩
  clear hi5 hz5 hs5 hy5
  rw [hn] at k0 hl hl0 ⊢
  have g0 : ((n : Int) == 0) = false := by simp; omega
  have g1 : ¬ (3000 : Int) < (n : Int) := by omega
  have hrd : ∀ x ∈ [d0, d1, d2, d3], x < 256 := by intro x hx; simp at hx; omega
  obtain ⟨bb, oo, hab, hblt, hcell⟩ : ∃ b' off', some (⟨b, off, none⟩ : Addr) = some ⟨b', off', none⟩ ∧ b' < w.heap.size ∧ ∀ i, i < l.length → w.cell? ⟨b', off' + i, none⟩ = some (.int .u8 (l.getD i 0 : Nat)) := by
    rcases r0.2 with h | h
    · rw [h] at hn; simp at hn; omega
    · exact h
  simp at hab
  obtain ⟨rfl, rfl⟩ := hab
  obtain ⟨k, hk⟩ : ∃ k, cut % n = k := ⟨_, rfl⟩
  have hkn : k < n := by rw [← hk]; exact Nat.mod_lt _ hl0
  have hkk : (cut : Int) % (n : Int) = (k : Int) := by rw [← hk]; simp
  clear hk
  go_enter Try.func6, Try.ntmps6
  go_wp2_with fail
  have HB : Hid (Below w.heap.size w (w.alloc (.cells #[.int .u8 (d0 : Int), .int .u8 (d1 : Int), .int .u8 (d2 : Int), .int .u8 (d3 : Int)] 31))) := (Below.refl _ _).alloc (Nat.le_refl _) _
  have hD : ∀ i, i < 4 → (w.alloc (.cells #[.int .u8 (d0 : Int), .int .u8 (d1 : Int), .int .u8 (d2 : Int), .int .u8 (d3 : Int)] 31)).cell? ⟨w.heap.size, i, none⟩ = some (.int .u8 ([d0, d1, d2, d3].getD i 0 : Nat)) := by
    intro i hi
    rw [cell_of_row _ _ _ _ 31 (0, 0) (heap_alloc_new w _)]
    match i, hi with
    | 0, _ => rfl
    | 1, _ => rfl
    | 2, _ => rfl
    | 3, _ => rfl
  have hgw : w.heap.size < (w.alloc (.cells #[.int .u8 (d0 : Int), .int .u8 (d1 : Int), .int .u8 (d2 : Int), .int .u8 (d3 : Int)] 31)).heap.size := by simp
  generalize w.alloc (.cells #[.int .u8 (d0 : Int), .int .u8 (d1 : Int), .int .u8 (d2 : Int), .int .u8 (d3 : Int)] 31) = wB at HB hD hgw ⊢
  have r1 := r0.below HB.out
  have hcellB : ∀ i, i < l.length → wB.cell? ⟨b, off + i, none⟩ = some (.int .u8 (l.getD i 0 : Nat)) := fun i hi => (HB.out.cell (p := ⟨b, off + i, none⟩) hblt).trans (hcell i hi)
  have hbltB : b < wB.heap.size := Nat.lt_of_lt_of_le hblt HB.out.size
  clear r0 hcell hblt
  generalize hgd : w.heap.size = gd at HB hD hgw ⊢
  have HGD : Hid (w.heap.size = gd) := hgd
  clear hgd
  refine (awake_any _).mono ?_
  rintro e w0 ⟨rfl, hb0⟩
  have hown := owns_empty wB w0 hb0
  have hb1 : Below wB.heap.size wB (w0.alloc (.cells #[] 5)) := hb0.alloc hb0.size _
  have HN : Hid (∀ j u, (vals l)[j]? = some u → (w0.alloc (.cells #[] 5)).cell? ((⟨b, off, none⟩ : Addr).add j) = some u) := news_of (fun i hi => (hb1.cell (p := ⟨b, off + i, none⟩) hbltB).trans (hcellB i hi))
  have HL : Hid ((vals l).length = n * 1) := by show _ = _; rw [vals_len, hn, Nat.mul_one]
  have HX : Hid (0 + n ≤ maxLen ∧ (0 + n) * 1 ≤ 140737488355328 ∧ wB.heap.size ≤ (w0.alloc (.cells #[] 5)).heap.size) := ⟨by unfold maxLen; omega, by omega, hb1.size⟩
  have HO : Hid ((w0.alloc (.cells #[] 5)).ownsRow wB.heap.size 5 1 (.slice (some ⟨w0.heap.size, 0, none⟩) 0 0) 0 (vals [])) := hown
  have HB0 : Hid (Below wB.heap.size wB w0) := hb0
  have HB1 : Hid (Below wB.heap.size wB (w0.alloc (.cells #[] 5))) := hb1
  clear hown hb1 hb0
  have HQ : Hid (wB.heap.size ≤ w0.heap.size) := HB0.out.size
  have HLn : Hid (l.length = n) := hn
  have hlt := r1.1
  go_wp2_with (at_builtin; refine wpList_append_lies _ rfl _ _ 22 rfl wB.heap.size 5 i5 (.int .u8 0) 1 1 Try.underlying22 HI5.out.1 HI5.out.2.1 HI5.out.2.2.1 HI5.out.2.2.2 rfl (by decide) (.slice (some ⟨w0.heap.size, 0, none⟩) 0 0) 0 (vals []) rfl HO.out ⟨b, off, none⟩ n cap (vals l) rfl HL.out HN.out (vals_one l) hl0 HX.out.1 HX.out.2.1 HX.out.2.2 _ rfl ?_; intro g cap2 w2 hown2 hgrow _ _; have hO := ap_own (m1 := []) HB1.out hgrow HQ.out hown2 rfl HLn.out (by simp) hlt; clear hown2 hgrow HN HO HX; obtain ⟨hO, hc2, hm2⟩ := hO)
  obtain ⟨D, hDD⟩ : ∃ D, [d0, d1, d2, d3] = D := ⟨_, rfl⟩
  have hD4 : D.length = 4 := by rw [← hDD]; rfl
  rw [hDD] at hD hrd
  clear hDD HI5 HL HB1
  go_loopg [9] 4 (fun t v wr => ∃ (i : Nat) (M : List Nat), i + t = 4 ∧ k + i ≤ n ∧ v = .int .i64 (i : Int) ∧ Own wB wr g M ∧ M = l.take k ++ D.take i ++ l.drop (k + i))
  case atStart => exact ⟨0, l, by omega, by omega, rfl, by simpa using hO, by simp⟩
  case round =>
    obtain ⟨i, M, ht, hki, rfl, hM, hMe⟩ := hrel
    have HT : Hid (i + gk = 4) := ht
    have HM : Hid (M = l.take k ++ D.take i ++ l.drop (k + i)) := hMe
    have hMl : M.length = n := by rw [hMe]; simp [hD4]; omega
    clear ht hMe hO
    by_cases hgo : i < 4 ∧ k + i < n
    · obtain ⟨hi, hki2⟩ := hgo
      obtain ⟨x, hx⟩ : ∃ x, D.getD i 0 = x := ⟨_, rfl⟩
      obtain ⟨y, hy⟩ : ∃ y, M.getD (k + i) 0 = y := ⟨_, rfl⟩
      have hc1 : wr.cell? ⟨gd, i, none⟩ = some (.int .u8 (x : Int)) := by
        rw [← hx]; exact (hM.low.cell (p := ⟨gd, i, none⟩) hgw).trans (hD i hi)
      have hc3 : wr.cell? ⟨g, k + i, none⟩ = some (.int .u8 (y : Int)) := by
        rw [← hy]; exact hM.cell (k + i) (by omega)
      have hf := hM.frozen (k + i)
      have hxl : x < 256 := by
        rw [← hx, List.getD_eq_getElem?_getD, List.getElem?_eq_getElem (by omega : i < D.length)]; exact hrd _ (List.getElem_mem _)
      have hset := patch_set l D k i (by omega) (by rw [HLn.out]; omega)
      rw [hx, ← HM.out] at hset
      have HSet : Hid (M.set (k + i) x = l.take k ++ D.take (i + 1) ++ l.drop (k + (i + 1))) := hset
      have i1 : (i : Int) < 4 := by omega
      have i2 : (k : Int) + (i : Int) < (n : Int) := by omega
      clear hx hy hset hD hcellB
      go_wp2_with fail
      go_roundg (gk - 1)
      case measure => have := HT.out; omega
      case rel =>
        have := HT.out
        exact ⟨i + 1, M.set (k + i) x, by omega, by omega, by go_num, hM.set (k + i) x hxl, HSet.out⟩
    · have hu : ((l.drop k).take i).length = (D.take i).length := by have := HT.out; simp [HLn.out, hD4]; omega
      have e1 : l = l.take k ++ (l.drop k).take i ++ l.drop (k + i) := by
        rw [List.append_assoc, ← List.drop_drop, List.take_append_drop, List.take_append_drop]
      have hlM : l.length = M.length := by rw [hMl, HLn.out]
      have hlt2 := hM.lt
      have hiff : nx 0 l = nx 0 M → l = M := by
        intro h
        have hML := HM.out
        rw [e1, hML] at h
        have huv := nx_apart (l.take k) ((l.drop k).take i) (D.take i) (l.drop (k + i)) hu (by have := HT.out; have h4 := List.length_take_le i (l.drop k); omega) (fun x hx => hlt x (List.mem_of_mem_take hx)) (fun x hx => hlt x (List.mem_of_mem_drop (List.mem_of_mem_take hx))) (fun x hx => hrd x (List.mem_of_mem_take hx)) h (fun x hx => hlt x (List.mem_of_mem_drop hx))
        rw [hML]
        rw [huv] at e1
        exact e1
      have HI : Hid (nx 0 l = nx 0 M → l = M) := hiff
      have HE : Hid ((strOf l).data.toList = (strOf M).data.toList → l = M) := strOf_inj l M hlM hlt hlt2
      have HBw := hM.low
      have r2 := r1.below HBw
      have hx := hM.row
      have hS0 : ∀ W, Below wr.heap.size wr W → Calls Try.prog 9 #[.slice (some ⟨b, off, none⟩) n cap] W fun e w' => e = .returned (.int .u32 (nx 0 l : Nat)) ∧ Below wr.heap.size wr w' := fun W hW => sum_at HLn.out r2 (by rw [HLn.out]; omega) hW
      have hS1 : ∀ W, Below wr.heap.size wr W → Calls Try.prog 9 #[.slice (some ⟨g, 0, none⟩) n cap2] W fun e w' => e = .returned (.int .u32 (nx 0 M : Nat)) ∧ Below wr.heap.size wr w' := fun W hW => sum_at hMl hx (by omega) hW
      have hC0 : ∀ W, Below wr.heap.size wr W → (convert 22 9 (.slice (some ⟨b, off, none⟩) n cap)).run Try.prog W = .ok (.string (strOf l)) W := str_at r2 HLn.out (by intro h; rw [h] at hlM; simp at hlM; omega)
      have hC1 : ∀ W, Below wr.heap.size wr W → (convert 22 9 (.slice (some ⟨g, 0, none⟩) n cap2)).run Try.prog W = .ok (.string (strOf M)) W := str_at hx hMl (by intro h; rw [h] at hMl; simp at hMl; omega)
      have HR := Below.refl wr.heap.size wr
      have HG : Hid (¬ (i < 4 ∧ k + i < n)) := hgo
      have t0 : i ≤ 4 := by have := HT.out; omega
      obtain ⟨s0, hs0⟩ : ∃ v, nx 0 l = v := ⟨_, rfl⟩
      obtain ⟨s1, hs1⟩ : ∃ v, nx 0 M = v := ⟨_, rfl⟩
      obtain ⟨q1', hq1⟩ : ∃ v, strOf l = v := ⟨_, rfl⟩
      obtain ⟨q2', hq2⟩ : ∃ v, strOf M = v := ⟨_, rfl⟩
      have HAll : Hid ((s0 = s1 ↔ l = M) ∧ (q1'.data.toList = q2'.data.toList ↔ l = M)) := by
        refine ⟨⟨fun h => HI.out (by rw [hs0, hs1, h]), fun h => by rw [← hs0, ← hs1, h]⟩, ⟨fun h => HE.out (by rw [hq1, hq2, h]), fun h => by rw [← hq1, ← hq2, h]⟩⟩
      rw [hs0] at hS0
      rw [hs1] at hS1
      rw [hq1] at hC0
      rw [hq2] at hC1
      clear hs0 hs1 hq1 hq2 HI HE hiff r1 r2 hx hM hMl hlM hlt2 hlt e1 hu hgo HM hrd hD hcellB
      by_cases hi4 : i < 4
      · have hkin : ¬ (k : Int) + (i : Int) < (n : Int) := by have := HG.out; omega
        have i1 : (i : Int) < 4 := by omega
        go_wp2_with fail
        go_region_held (fun w' => Below wr.heap.size wr w') (first | assumption | (refine Below.drew ?_; assumption)) (first
          | (go_at_call_of 9 b; refine (hS0 _ ?_).mono ?_; assumption; rintro e w1 ⟨rfl, hb1⟩)
          | (go_at_call_of 9 g; refine (hS1 _ ?_).mono ?_; assumption; rintro e w1 ⟨rfl, hb1⟩))
        all_goals
          go_wp2_with fail
          go_ret
          refine ⟨ret_bool (both_same HAll.out), ?_⟩
          rw [HGD.out]
          refine HB.out.trans ((HBw.trans (Below.mono (B := wr.heap.size) ?_ HBw.size)).mono (Nat.le_of_lt hgw))
          assumption
      · have i1 : ¬ (i : Int) < 4 := by omega
        go_wp2_with fail
        go_region_held (fun w' => Below wr.heap.size wr w') (first | assumption | (refine Below.drew ?_; assumption)) (first
          | (go_at_call_of 9 b; refine (hS0 _ ?_).mono ?_; assumption; rintro e w1 ⟨rfl, hb1⟩)
          | (go_at_call_of 9 g; refine (hS1 _ ?_).mono ?_; assumption; rintro e w1 ⟨rfl, hb1⟩))
        all_goals
          go_wp2_with fail
          go_ret
          refine ⟨ret_bool (both_same HAll.out), ?_⟩
          rw [HGD.out]
          refine HB.out.trans ((HBw.trans (Below.mono (B := wr.heap.size) ?_ HBw.size)).mono (Nat.le_of_lt hgw))
          assumption

theorem crcApart_out (a : Option Addr) (n cap cut : Nat) (v : Value) (c0 c1 c2 c3 : Value) (w : World) (hm : n ≤ 9223372036854775807) (hn : n = 0 ∨ 3000 < n) :
    Calls Try.prog 6 #[.slice a n cap, .int .u16 (cut : Int), .agg #[c0, c1, c2, c3]] w fun e w' => e = .returned (.bool true) ∧ Below w.heap.size w w' := by
  rcases hn with rfl | hn
  · go_enter Try.func6, Try.ntmps6
    go_wp2_with fail
    refine (awake_any _).mono ?_
    rintro e w0 ⟨rfl, hb0⟩
    go_wp2_with fail
    go_ret
    exact ⟨rfl, ((Below.refl _ _).alloc (Nat.le_refl _) _).trans (hb0.mono (by simp))⟩
  · have g1 : (3000 : Int) < (n : Int) := by omega
    go_enter Try.func6, Try.ntmps6
    go_wp2_with fail
    refine (awake_any _).mono ?_
    rintro e w0 ⟨rfl, hb0⟩
    go_wp2_with fail
    go_ret
    exact ⟨rfl, ((Below.refl _ _).alloc (Nat.le_refl _) _).trans (hb0.mono (by simp))⟩
theorem crcApart_all (a0 : Option Addr) (len0 cap0 : Nat) (z0 : List Int) (a1 x0 x1 x2 x3 : Int) (w : World) (w0 : IsRow .u8 w a0 len0 cap0 z0) (w1 : (Lit.int .u16 a1).wf = true)
    (y0 : (Lit.int .u8 x0).wf = true) (y1 : (Lit.int .u8 x1).wf = true) (y2 : (Lit.int .u8 x2).wf = true) (y3 : (Lit.int .u8 x3).wf = true) :
    Calls Try.prog 6 #[.slice a0 len0 cap0, .int .u16 a1, .agg #[.int .u8 x0, .int .u8 x1, .int .u8 x2, .int .u8 x3]] w fun e w' => e = .returned (.bool true) ∧ Below w.heap.size w w' := by
  obtain ⟨l, rfl, hr, hcap, hm⟩ := bytes_of w0
  obtain ⟨cut, rfl, hcut⟩ := nat_u16 w1
  unfold maxLen at hm
  by_cases hl : 0 < l.length ∧ l.length ≤ 3000
  · have z0 := nat_u8 y0
    have z1 := nat_u8 y1
    have z2 := nat_u8 y2
    have z3 := nat_u8 y3
    obtain ⟨d0, rfl⟩ : ∃ d : Nat, x0 = (d : Int) := ⟨x0.toNat, by omega⟩
    obtain ⟨d1, rfl⟩ : ∃ d : Nat, x1 = (d : Int) := ⟨x1.toNat, by omega⟩
    obtain ⟨d2, rfl⟩ : ∃ d : Nat, x2 = (d : Int) := ⟨x2.toNat, by omega⟩
    obtain ⟨d3, rfl⟩ : ∃ d : Nat, x3 = (d : Int) := ⟨x3.toNat, by omega⟩
    rcases hr.2 with h | ⟨b, off, rfl, _, _⟩
    · rw [h] at hl; simp at hl
    · exact crcApart_walk b off l cap0 cut d0 d1 d2 d3 w hcut hr hcap hl.2 hl.1 (by omega) (by omega) (by omega) (by omega)
  · exact crcApart_out a0 l.length cap0 cut (.bool true) _ _ _ _ w (by omega) (by omega)

theorem list4 {α : Type} (l : List α) (h : l.length = 4) : ∃ a b c d, l = [a, b, c, d] := by
  match l, h with
  | [a, b, c, d], _ => exact ⟨a, b, c, d, rfl⟩

set_option maxRecDepth 100000 in
theorem crcApart_lifted (os : Os) (started : os.Started) (H : Type) (enc : TypeId × Value → H) :
    ReturnsInHanded {} Try.checked os 6 .any (Rows.crcApartSpec.pre6 enc Try.prog Try.f6 Rows.crcApartRow.domain false) (Rows.crcApartSpec.post enc Try.prog Try.f6 false true false false) := by
  refine returnsInHanded_of_change (C := Try.checked) own started (by kernel_rfl) Try.func6
    (ChangeSpec.witness6 (enc := enc) (C := Try.checked) false ⟨#[], #[.slice none 0 0, .int .u16 0, .agg #[.int .u8 0, .int .u8 0, .int .u8 0, .int .u8 0]], []⟩ 8 (by kernel_rfl) (by kernel_rfl) (by kernel_rfl) (by kernel_rfl)) ?_
  intro W base args ds gs before hval0 hW hcnd _
  have hval : ∀ (j : Nat) t v, Try.f6.params[j]? = some t → args[j]? = some v → Value.okWide Try.prog W .any base t v := hval0
  have hW' := hW
  obtain ⟨p, q, hA0, hV, rfl, hfz, hnd⟩ := hW
  have hA : DataW.TrodAll enc Try.prog W 0 (fun _ => true) true Try.f6.params.toList args.toList ds p := hA0
  rw [Try.params6] at hA hval
  obtain ⟨v0, vs0, d0, ds0, p0, q0, hargs, rfl, rfl, h0, r0⟩ := trodAll_cons hA
  obtain ⟨v1, vs1, d1, ds1, p1, q1, rfl, rfl, rfl, h1, r1⟩ := trodAll_cons r0
  obtain ⟨v2, vs2, d2, ds2, p2, q2, rfl, rfl, rfl, h2, r2⟩ := trodAll_cons r1
  obtain ⟨rfl, rfl, rfl⟩ := trodAll_nil r2
  obtain rfl : args = #[v0, v1, v2] := by cases args; simp_all
  obtain ⟨rfl, rfl⟩ := trodVars_none hV
  obtain ⟨a0, len0, cap0, rfl⟩ := okWide_slice Try.underlying22 (hval 0 22 v0 rfl rfl)
  have k0 := h0
  have lt0 : ∀ x ∈ p0, x.block < W.heap.size := by obtain ⟨m, hm⟩ := k0; exact DataW.trod_lt m _ _ _ hm
  have k2 := h2
  have lt2 : ∀ x ∈ p2, x.block < W.heap.size := by obtain ⟨m, hm⟩ := k2; exact DataW.trod_lt m _ _ _ hm
  obtain ⟨z0, w0⟩ : ∃ zs, IsRow .u8 W a0 len0 cap0 zs := by
    obtain ⟨fuel, hf⟩ := h0
    rcases open_ints Try.underlying22 Try.underlying5 (by kernel_rfl) hf with ⟨hcs, _⟩ | ⟨x, l, c, zs, hcs, _, hl, hm, hz, _, hcell, hwz⟩
    · simp [Value.cells] at hcs
      obtain ⟨rfl, rfl, rfl⟩ := hcs
      exact ⟨[], .inl ⟨rfl, rfl, rfl, rfl⟩⟩
    · simp [Value.cells] at hcs
      obtain ⟨rfl, rfl, rfl⟩ := hcs
      exact ⟨zs, .inr ⟨_, rfl, hl, hm, by simpa using hz, hcell, hwz⟩⟩
  obtain ⟨a1, rfl, rfl, rfl, w1⟩ := open_int Try.underlying23 (hval 1 23 v1 rfl rfl) h1
  obtain ⟨x0, x1, x2, x3, rfl, y0, y1, y2, y3⟩ : ∃ x0 x1 x2 x3 : Int, v2 = .agg #[.int .u8 x0, .int .u8 x1, .int .u8 x2, .int .u8 x3] ∧ (Lit.int .u8 x0).wf = true ∧ (Lit.int .u8 x1).wf = true ∧ (Lit.int .u8 x2).wf = true ∧ (Lit.int .u8 x3).wf = true := by
    obtain ⟨cs, rfl, hsz, _⟩ : ∃ cs, v2 = .agg cs ∧ cs.size = Try.prog.cellsOf 31 ∧ Row.okWide Try.prog W .any base 31 cs := by
      have := hval 2 31 v2 rfl rfl
      simpa [Value.okWide, Try.underlying31] using this
    have hc31 : Try.prog.cellsOf 31 = 4 := by kernel_rfl
    have hc5 : Try.prog.cellsOf 5 = 1 := by kernel_rfl
    rw [hc31] at hsz
    obtain ⟨l⟩ := cs
    obtain ⟨c0, c1, c2, c3, rfl⟩ := list4 l hsz
    obtain ⟨fuel, hf⟩ := h2
    obtain ⟨y0, y1, y2, y3, m, hx, hy0, hy1, hy2, hy3⟩ := trod_array4 Try.underlying31 hc5 hf
    obtain ⟨x0, e0, rfl, w0⟩ := DataW.trod_int Try.underlying5 hy0
    obtain ⟨x1, e1, rfl, w1⟩ := DataW.trod_int Try.underlying5 hy1
    obtain ⟨x2, e2, rfl, w2⟩ := DataW.trod_int Try.underlying5 hy2
    obtain ⟨x3, e3, rfl, w3⟩ := DataW.trod_int Try.underlying5 hy3
    simp at e0 e1 e2 e3
    subst e0 e1 e2 e3
    exact ⟨x0, x1, x2, x3, rfl, w0, w1, w2, w3⟩
  clear hA0 hval0
  refine (crcApart_all a0 len0 cap0 z0 a1 x0 x1 x2 x3 W w0 w1 y0 y1 y2 y3).mono fun e W' ⟨he, bel⟩ => ?_
  subst he
  exact ⟨_, rfl, _, _, _, [], _, [], hW', trodAll_mk1 (shut_bool Try.underlying4 _), (trodAll_cons_mk (Below.trod laidOut (by kernel_rfl) (of_decide_eq_true (by kernel_rfl)) k0 bel lt0) (trodAll_cons_mk (shut_int Try.underlying23 w1) (trodAll_cons_mk (Below.trod laidOut (by kernel_rfl) (of_decide_eq_true (by kernel_rfl)) k2 bel lt2) trodAll_mk0))), rfl, bel.frame _, fun h => by cases h⟩

theorem crcApart_over : Rows.crcApartRow.holds Try.pinned (OpenSpec.ofChange Rows.crcApartSpec) :=
  OpenClaim.holds_of_wide 6 Try.f6 rfl rfl rfl rfl rfl rfl rfl ⟨rfl, rfl, rfl, rfl, rfl⟩ rfl rfl rfl rfl rfl (by kernel_rfl) Try.func6 (by kernel_rfl)
    (of_decide_eq_true (by kernel_rfl)) (by unfold Func.isWrapper; first | (rw [if_pos (by decide +kernel)]; kernel_rfl) | (rw [if_neg (by decide +kernel)]; exact ⟨rfl, rfl⟩))
    (fun os started H enc _ => crcApart_lifted os started H enc)

theorem crcApart_holds : Rows.CrcApartSaid := crcApart_over
#print axioms crcApart_holds
end Go.Proofs.Ytoflfendomampaa
