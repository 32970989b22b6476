/- Proved: the law 'CrcLines' (the sum of three texts of one length that are turned into each other is that of the fourth) answers true, and what came in reads as it did. No condition. -/
import Derived.Test.YtoflfendomampaaBuf
import Derived.Test.YtoflfendomampaaLin
import Derived.Deep.RegionHeld
import Derived.Deep.DrawnRows
namespace Go.Proofs.Ytoflfendomampaa
open Go.ChangeShapes Go.WideShapes Go.ChangeAt Go.RowKit Crc
attribute [local go_sem ↓] Go.wp_at_zero Go.wp_at_succ
set_option linter.unusedVariables false

theorem row_cell {w : World} {a : Option Addr} {l : List Nat} (h : Row w a l) (hn : 0 < l.length) : ∃ b off, a = some ⟨b, off, none⟩ ∧ b < w.heap.size ∧ ∀ i, i < l.length → w.cell? ⟨b, off + i, none⟩ = some (.int .u8 (l.getD i 0 : Nat)) := by
  rcases h.2 with h | h
  · rw [h] at hn; simp at hn
  · exact h
theorem byte_lt {l : List Nat} (h : ∀ x ∈ l, x < 256) (i : Nat) : l.getD i 0 < 256 := by
  by_cases hi : i < l.length
  · rw [List.getD_eq_getElem?_getD, List.getElem?_eq_getElem hi]; exact h _ (List.getElem_mem hi)
  · rw [List.getD_eq_getElem?_getD, List.getElem?_eq_none (by omega)]; decide

set_option maxHeartbeats 1000000 in
theorem crcLines_walk (a0 a1 a2 : Option Addr) (l0 l1 l2 : List Nat) (c0 c1 c2 : Nat) (w : World) (r0 : Row w a0 l0) (r1 : Row w a1 l1) (r2 : Row w a2 l2) (k0 : l0.length ≤ c0) (k1 : l1.length ≤ c1) (k2 : l2.length ≤ c2)
    (m0 : c0 ≤ 9223372036854775807) (m1 : c1 ≤ 9223372036854775807) (m2 : c2 ≤ 9223372036854775807) (N m : Nat)
    (hm : (if l2.length < l1.length then (l2.length : Int) else (l1.length : Int)) = (m : Int)) (hN : (if m < l0.length then (m : Int) else (l0.length : Int)) = (N : Int)) (hs : N ≤ 2000) :
    Calls Try.prog 7 #[.slice a0 l0.length c0, .slice a1 l1.length c1, .slice a2 l2.length c2] w fun e w' => e = .returned (.bool true) ∧ Below w.heap.size w w' := by
  have b0 : N ≤ l0.length := by split at hN <;> omega
  have b1 : N ≤ l1.length := by split at hm <;> split at hN <;> omega
  have b2 : N ≤ l2.length := by split at hm <;> split at hN <;> omega
  obtain ⟨n0, hn0⟩ : ∃ n, l0.length = n := ⟨_, rfl⟩
  obtain ⟨n1, hn1⟩ : ∃ n, l1.length = n := ⟨_, rfl⟩
  obtain ⟨n2, hn2⟩ : ∃ n, l2.length = n := ⟨_, rfl⟩
  have s0 := fun w => slice_to w a0 n0 c0 N (by omega)
  have s1 := fun w => slice_to w a1 n1 c1 N (by omega)
  have s2 := fun w => slice_to w a2 n2 c2 N (by omega)
  have hmk := make_any N (by omega)
  have t0 := row_take r0 N
  have t1 := row_take r1 N
  have t2 := row_take r2 N
  have e0 : (l0.take N).length = N := by simp; omega
  have e1 : (l1.take N).length = N := by simp; omega
  have e2 : (l2.take N).length = N := by simp; omega
  rw [hn0] at k0 hN b0 ⊢
  rw [hn1] at k1 hm b1 ⊢
  rw [hn2] at k2 hm b2 ⊢
  generalize l0.take N = L0 at t0 e0
  generalize l1.take N = L1 at t1 e1
  generalize l2.take N = L2 at t2 e2
  clear r0 r1 r2 hn0 hn1 hn2
  go_enter Try.func7, Try.ntmps7
  go_wp2_with fail
  refine (awake_any _).mono ?_
  rintro e w0 ⟨rfl, hb0⟩
  go_wp2_with fail
  have hB := Buf.made hb0 (List.replicate N 0) (by intro x hx; rw [List.eq_of_mem_replicate hx]; decide)
  generalize w0.alloc (.cells (row8 (List.replicate N 0)) 5) = w1 at hB ⊢
  generalize w0.heap.size = g at hB ⊢
  clear hb0 hmk
  go_loopg [9] N (fun k i wr => ∃ (n : Nat) (M : List Nat), n + k = N ∧ i = .int .i64 (n : Int) ∧ Buf w wr g M ∧ M.length = N ∧ ∀ j, j < n → M.getD j 0 = (xor3 L0 L1 L2).getD j 0)
  case atStart => exact ⟨0, List.replicate N 0, by omega, rfl, hB, by simp, by intro j hj; omega⟩
  case round =>
    obtain ⟨n, M, hk, rfl, hb, hM, hj⟩ := hrel
    have HK : Hid (n + gk = N) := hk
    have HJ : Hid (∀ j, j < n → M.getD j 0 = (xor3 L0 L1 L2).getD j 0) := hj
    clear hk hj hB
    by_cases hlt : n < N
    · obtain ⟨p0, o0, rfl, q0, g0⟩ := row_cell t0 (by omega)
      obtain ⟨p1, o1, rfl, q1, g1⟩ := row_cell t1 (by omega)
      obtain ⟨p2, o2, rfl, q2, g2⟩ := row_cell t2 (by omega)
      have hc := hb.cell n (by omega)
      have hf := hb.frozen n
      obtain ⟨x0, hx0⟩ : ∃ x, L0.getD n 0 = x := ⟨_, rfl⟩
      obtain ⟨x1, hx1⟩ : ∃ x, L1.getD n 0 = x := ⟨_, rfl⟩
      obtain ⟨x2, hx2⟩ : ∃ x, L2.getD n 0 = x := ⟨_, rfl⟩
      obtain ⟨v, hv⟩ : ∃ x, M.getD n 0 = x := ⟨_, rfl⟩
      have d0 : wr.cell? ⟨p0, o0 + n, none⟩ = some (.int .u8 (x0 : Int)) := by rw [← hx0]; exact (hb.low.cell (p := ⟨p0, o0 + n, none⟩) q0).trans (g0 n (by omega))
      have d1 : wr.cell? ⟨p1, o1 + n, none⟩ = some (.int .u8 (x1 : Int)) := by rw [← hx1]; exact (hb.low.cell (p := ⟨p1, o1 + n, none⟩) q1).trans (g1 n (by omega))
      have d2 : wr.cell? ⟨p2, o2 + n, none⟩ = some (.int .u8 (x2 : Int)) := by rw [← hx2]; exact (hb.low.cell (p := ⟨p2, o2 + n, none⟩) q2).trans (g2 n (by omega))
      rw [hv] at hc
      have y0 : x0 < 256 := by rw [← hx0]; exact byte_lt t0.1 n
      have y1 : x1 < 256 := by rw [← hx1]; exact byte_lt t1.1 n
      have y2 : x2 < 256 := by rw [← hx2]; exact byte_lt t2.1 n
      have z1 : x0 ^^^ x1 < 256 := Nat.xor_lt_two_pow (n := 8) y0 y1
      have f1 := u8_xor_nat x0 x1 y0 y1
      have f2 := u8_xor_nat (x0 ^^^ x1) x2 z1 y2
      have z2 : x0 ^^^ x1 ^^^ x2 < 256 := Nat.xor_lt_two_pow (n := 8) z1 y2
      have HG : Hid ((xor3 L0 L1 L2).getD n 0 = x0 ^^^ x1 ^^^ x2) := by
        show _ = _
        rw [xor3_get L0 L1 L2 n (by omega) (by omega) (by omega), hx0, hx1, hx2]
      obtain ⟨z, hz⟩ : ∃ z, x0 ^^^ x1 ^^^ x2 = z := ⟨_, rfl⟩
      obtain ⟨y, hy⟩ : ∃ y, x0 ^^^ x1 = y := ⟨_, rfl⟩
      rw [hz] at f2 HG z2
      rw [hy] at f1 f2
      have i1 : (n : Int) < (n0 : Int) := by omega
      have i2 : (n : Int) < (n1 : Int) := by omega
      have i3 : (n : Int) < (n2 : Int) := by omega
      have i4 : (n : Int) < (N : Int) := by omega
      have i5 : (0 : Int) ≤ (n : Int) := by omega
      clear hx0 hx1 hx2 hv hz hy g0 g1 g2 z1
      have hb2 := hb.set n z z2
      have HK2 : Hid ((wr.setCell ⟨g, n, none⟩ (.int .u8 (z : Int))).drew.cell? ⟨p0, o0 + n, none⟩ = some (.int .u8 (x0 : Int)) ∧ (wr.setCell ⟨g, n, none⟩ (.int .u8 (z : Int))).drew.cell? ⟨p1, o1 + n, none⟩ = some (.int .u8 (x1 : Int)) ∧ (wr.setCell ⟨g, n, none⟩ (.int .u8 (z : Int))).drew.cell? ⟨p2, o2 + n, none⟩ = some (.int .u8 (x2 : Int))) :=
        ⟨((hb2.low.drew.cell (p := ⟨p0, o0 + n, none⟩) q0).trans (hb.low.cell (p := ⟨p0, o0 + n, none⟩) q0).symm).trans d0, ((hb2.low.drew.cell (p := ⟨p1, o1 + n, none⟩) q1).trans (hb.low.cell (p := ⟨p1, o1 + n, none⟩) q1).symm).trans d1, ((hb2.low.drew.cell (p := ⟨p2, o2 + n, none⟩) q2).trans (hb.low.cell (p := ⟨p2, o2 + n, none⟩) q2).symm).trans d2⟩
      go_wp2_with fail
      go_region_held (fun w' => w'.cell? ⟨p0, o0 + n, none⟩ = some (.int .u8 (x0 : Int)) ∧ w'.cell? ⟨p1, o1 + n, none⟩ = some (.int .u8 (x1 : Int)) ∧ w'.cell? ⟨p2, o2 + n, none⟩ = some (.int .u8 (x2 : Int))) (first | exact HK2.out | go_keep) (fail)
      go_wp2_with fail
      go_roundg (gk - 1)
      case measure => have := HK.out; omega
      case rel =>
        have h1 := HK.out
        have h2 := HJ.out
        refine ⟨n + 1, M.set n z, by omega, by go_num, hb2.drew, by simpa using hM, fun j hj => ?_⟩
        by_cases hjn : j = n
        · subst hjn
          rw [HG.out]
          simp [hM, hlt]
        · have h3 := h2 j (by omega)
          rw [← h3]
          simp [List.getElem?_set_ne (Ne.symm hjn)]
    · have hn : n = N := by have := HK.out; omega
      have hMX : M = xor3 L0 L1 L2 := by
        have hl := xor3_len L0 L1 L2 (by omega) (by omega)
        apply List.ext_getElem (by omega)
        intro j h1 h2
        have := HJ.out j (by omega)
        simpa [List.getD_eq_getElem?_getD, List.getElem?_eq_getElem h1, List.getElem?_eq_getElem h2] using this
      have hsum := nx_lines L0 L1 L2 (by omega) (by omega) t0.1 t1.1 t2.1
      rw [← hMX] at hsum
      have u0 := t0.below hb.low
      have u1 := t1.below hb.low
      have u2 := t2.below hb.low
      have hx := hb.row
      have HB := hb.low
      have hS0 : ∀ W, Below wr.heap.size wr W → Calls Try.prog 9 #[.slice a0 N c0] W fun e w' => e = .returned (.int .u32 (nx 0 L0 : Nat)) ∧ Below wr.heap.size wr w' := fun W hW => sum_at e0 u0 (by omega) hW
      have hS1 : ∀ W, Below wr.heap.size wr W → Calls Try.prog 9 #[.slice a1 N c1] W fun e w' => e = .returned (.int .u32 (nx 0 L1 : Nat)) ∧ Below wr.heap.size wr w' := fun W hW => sum_at e1 u1 (by omega) hW
      have hS2 : ∀ W, Below wr.heap.size wr W → Calls Try.prog 9 #[.slice a2 N c2] W fun e w' => e = .returned (.int .u32 (nx 0 L2 : Nat)) ∧ Below wr.heap.size wr w' := fun W hW => sum_at e2 u2 (by omega) hW
      have hS3 : ∀ W, Below wr.heap.size wr W → Calls Try.prog 9 #[.slice (some ⟨g, 0, none⟩) N N] W fun e w' => e = .returned (.int .u32 (nx 0 M : Nat)) ∧ Below wr.heap.size wr w' := fun W hW => sum_at hM hx (by omega) hW
      have f1 := u32_xor_nat (nx 0 L0) (nx 0 L1) (nx_lt _ _) (nx_lt _ _)
      have f2 := u32_xor_nat (nx 0 L0 ^^^ nx 0 L1) (nx 0 L2) (Nat.xor_lt_two_pow (n := 32) (nx_lt _ _) (nx_lt _ _)) (nx_lt _ _)
      rw [hsum] at f2
      obtain ⟨v0, hv0⟩ : ∃ v, nx 0 L0 = v := ⟨_, rfl⟩
      obtain ⟨v1, hv1⟩ : ∃ v, nx 0 L1 = v := ⟨_, rfl⟩
      obtain ⟨v2, hv2⟩ : ∃ v, nx 0 L2 = v := ⟨_, rfl⟩
      obtain ⟨v3, hv3⟩ : ∃ v, nx 0 M = v := ⟨_, rfl⟩
      rw [hv0] at hS0 f1 f2
      rw [hv1] at hS1 f1 f2
      rw [hv2] at hS2 f2
      rw [hv3] at hS3 f2
      obtain ⟨y, hy⟩ : ∃ y, v0 ^^^ v1 = y := ⟨_, rfl⟩
      rw [hy] at f1 f2
      have HR := Below.refl wr.heap.size wr
      have hnN : ¬ (n : Int) < (N : Int) := by omega
      clear hv0 hv1 hv2 hv3 hy hsum hMX HJ hb hM hn t0 t1 t2 u0 u1 u2 hx e0 e1 e2
      go_wp2_with fail
      go_region_held (fun w' => Below wr.heap.size wr w') (first | assumption | (refine Below.drew ?_; assumption)) (first
        | (go_at_call_of 9 a0; refine (hS0 _ ?_).mono ?_; assumption; rintro e w1 ⟨rfl, hb1⟩)
        | (go_at_call_of 9 a1; refine (hS1 _ ?_).mono ?_; assumption; rintro e w1 ⟨rfl, hb1⟩)
        | (go_at_call_of 9 a2; refine (hS2 _ ?_).mono ?_; assumption; rintro e w1 ⟨rfl, hb1⟩)
        | (go_at_call 9; refine (hS3 _ ?_).mono ?_; assumption; rintro e w1 ⟨rfl, hb1⟩))
      all_goals
        go_wp2_with fail
        go_ret
        refine ⟨rfl, HB.trans (Below.mono (B := wr.heap.size) ?_ HB.size)⟩
        assumption

theorem crcLines_long (a0 a1 a2 : Option Addr) (n0 n1 n2 c0 c1 c2 : Nat) (w : World) (m0 : n0 ≤ 9223372036854775807) (m1 : n1 ≤ 9223372036854775807) (m2 : n2 ≤ 9223372036854775807) (N m : Nat)
    (hm : (if n2 < n1 then (n2 : Int) else (n1 : Int)) = (m : Int)) (hN : (if m < n0 then (m : Int) else (n0 : Int)) = (N : Int)) (hs : 2000 < N) :
    Calls Try.prog 7 #[.slice a0 n0 c0, .slice a1 n1 c1, .slice a2 n2 c2] w fun e w' => e = .returned (.bool true) ∧ Below w.heap.size w w' := by
  have hs' : (2000 : Int) < (N : Int) := by omega
  go_enter Try.func7, Try.ntmps7
  go_wp2_with fail
  refine (awake_any _).mono ?_
  rintro e w0 ⟨rfl, hb0⟩
  go_wp2_with fail
  go_ret
  exact ⟨rfl, hb0⟩
theorem min_nat (x y : Nat) : ∃ m : Nat, (if x < y then (x : Int) else (y : Int)) = (m : Int) := by
  by_cases h : x < y
  · exact ⟨x, if_pos h⟩
  · exact ⟨y, if_neg h⟩
theorem crcLines_all (a0 : Option Addr) (len0 cap0 : Nat) (z0 : List Int) (a1 : Option Addr) (len1 cap1 : Nat) (z1 : List Int) (a2 : Option Addr) (len2 cap2 : Nat) (z2 : List Int) (w : World) (w0 : IsRow .u8 w a0 len0 cap0 z0) (w1 : IsRow .u8 w a1 len1 cap1 z1) (w2 : IsRow .u8 w a2 len2 cap2 z2) :
    Calls Try.prog 7 #[.slice a0 len0 cap0, .slice a1 len1 cap1, .slice a2 len2 cap2] w fun e w' => e = .returned (.bool true) ∧ Below w.heap.size w w' := by
  obtain ⟨l0, rfl, r0, k0, m0⟩ := bytes_of w0
  obtain ⟨l1, rfl, r1, k1, m1⟩ := bytes_of w1
  obtain ⟨l2, rfl, r2, k2, m2⟩ := bytes_of w2
  unfold maxLen at m0 m1 m2
  obtain ⟨m, hm⟩ := min_nat l2.length l1.length
  obtain ⟨N, hN⟩ := min_nat m l0.length
  by_cases hs : N ≤ 2000
  · exact crcLines_walk a0 a1 a2 l0 l1 l2 cap0 cap1 cap2 w r0 r1 r2 k0 k1 k2 m0 m1 m2 N m hm hN hs
  · exact crcLines_long a0 a1 a2 l0.length l1.length l2.length cap0 cap1 cap2 w (by omega) (by omega) (by omega) N m hm hN (by omega)

set_option maxRecDepth 100000 in
theorem crcLines_lifted (os : Os) (started : os.Started) (H : Type) (enc : TypeId × Value → H) :
    ReturnsInHanded {} Try.checked os 7 .any (Rows.crcLinesSpec.pre6 enc Try.prog Try.f7 Rows.crcLinesRow.domain false) (Rows.crcLinesSpec.post enc Try.prog Try.f7 false true false false) := by
  refine returnsInHanded_of_change (C := Try.checked) own started (by kernel_rfl) Try.func7
    (ChangeSpec.witness6 (enc := enc) (C := Try.checked) false ⟨#[], #[.slice none 0 0, .slice none 0 0, .slice none 0 0], []⟩ 8 (by kernel_rfl) (by kernel_rfl) (by kernel_rfl) (by kernel_rfl)) ?_
  intro W base args ds gs before hval0 hW hcnd _
  have hval : ∀ (j : Nat) t v, Try.f7.params[j]? = some t → args[j]? = some v → Value.okWide Try.prog W .any base t v := hval0
  have hW' := hW
  obtain ⟨p, q, hA0, hV, rfl, hfz, hnd⟩ := hW
  have hA : DataW.TrodAll enc Try.prog W 0 (fun _ => true) true Try.f7.params.toList args.toList ds p := hA0
  rw [Try.params7] at hA hval
  obtain ⟨v0, vs0, d0, ds0, p0, q0, hargs, rfl, rfl, h0, r0⟩ := trodAll_cons hA
  obtain ⟨v1, vs1, d1, ds1, p1, q1, rfl, rfl, rfl, h1, r1⟩ := trodAll_cons r0
  obtain ⟨v2, vs2, d2, ds2, p2, q2, rfl, rfl, rfl, h2, r2⟩ := trodAll_cons r1
  obtain ⟨rfl, rfl, rfl⟩ := trodAll_nil r2
  obtain rfl : args = #[v0, v1, v2] := by cases args; simp_all
  obtain ⟨rfl, rfl⟩ := trodVars_none hV
  obtain ⟨a0, len0, cap0, rfl⟩ := okWide_slice Try.underlying22 (hval 0 22 v0 rfl rfl)
  have k0 := h0
  have lt0 : ∀ x ∈ p0, x.block < W.heap.size := by obtain ⟨m, hm⟩ := k0; exact DataW.trod_lt m _ _ _ hm
  obtain ⟨z0, w0⟩ : ∃ zs, IsRow .u8 W a0 len0 cap0 zs := by
    obtain ⟨fuel, hf⟩ := h0
    rcases open_ints Try.underlying22 Try.underlying5 (by kernel_rfl) hf with ⟨hcs, _⟩ | ⟨x, l, c, zs, hcs, _, hl, hm, hz, _, hcell, hwz⟩
    · simp [Value.cells] at hcs
      obtain ⟨rfl, rfl, rfl⟩ := hcs
      exact ⟨[], .inl ⟨rfl, rfl, rfl, rfl⟩⟩
    · simp [Value.cells] at hcs
      obtain ⟨rfl, rfl, rfl⟩ := hcs
      exact ⟨zs, .inr ⟨_, rfl, hl, hm, by simpa using hz, hcell, hwz⟩⟩
  obtain ⟨a1, len1, cap1, rfl⟩ := okWide_slice Try.underlying22 (hval 1 22 v1 rfl rfl)
  have k1 := h1
  have lt1 : ∀ x ∈ p1, x.block < W.heap.size := by obtain ⟨m, hm⟩ := k1; exact DataW.trod_lt m _ _ _ hm
  obtain ⟨z1, w1⟩ : ∃ zs, IsRow .u8 W a1 len1 cap1 zs := by
    obtain ⟨fuel, hf⟩ := h1
    rcases open_ints Try.underlying22 Try.underlying5 (by kernel_rfl) hf with ⟨hcs, _⟩ | ⟨x, l, c, zs, hcs, _, hl, hm, hz, _, hcell, hwz⟩
    · simp [Value.cells] at hcs
      obtain ⟨rfl, rfl, rfl⟩ := hcs
      exact ⟨[], .inl ⟨rfl, rfl, rfl, rfl⟩⟩
    · simp [Value.cells] at hcs
      obtain ⟨rfl, rfl, rfl⟩ := hcs
      exact ⟨zs, .inr ⟨_, rfl, hl, hm, by simpa using hz, hcell, hwz⟩⟩
  obtain ⟨a2, len2, cap2, rfl⟩ := okWide_slice Try.underlying22 (hval 2 22 v2 rfl rfl)
  have k2 := h2
  have lt2 : ∀ x ∈ p2, x.block < W.heap.size := by obtain ⟨m, hm⟩ := k2; exact DataW.trod_lt m _ _ _ hm
  obtain ⟨z2, w2⟩ : ∃ zs, IsRow .u8 W a2 len2 cap2 zs := by
    obtain ⟨fuel, hf⟩ := h2
    rcases open_ints Try.underlying22 Try.underlying5 (by kernel_rfl) hf with ⟨hcs, _⟩ | ⟨x, l, c, zs, hcs, _, hl, hm, hz, _, hcell, hwz⟩
    · simp [Value.cells] at hcs
      obtain ⟨rfl, rfl, rfl⟩ := hcs
      exact ⟨[], .inl ⟨rfl, rfl, rfl, rfl⟩⟩
    · simp [Value.cells] at hcs
      obtain ⟨rfl, rfl, rfl⟩ := hcs
      exact ⟨zs, .inr ⟨_, rfl, hl, hm, by simpa using hz, hcell, hwz⟩⟩
  clear hA0 hval0
  refine (crcLines_all a0 len0 cap0 z0 a1 len1 cap1 z1 a2 len2 cap2 z2 W w0 w1 w2).mono fun e W' ⟨he, bel⟩ => ?_
  subst he
  exact ⟨_, rfl, _, _, _, [], _, [], hW', trodAll_mk1 (shut_bool Try.underlying4 _), (trodAll_cons_mk (Below.trod laidOut (by kernel_rfl) (of_decide_eq_true (by kernel_rfl)) k0 bel lt0) (trodAll_cons_mk (Below.trod laidOut (by kernel_rfl) (of_decide_eq_true (by kernel_rfl)) k1 bel lt1) (trodAll_cons_mk (Below.trod laidOut (by kernel_rfl) (of_decide_eq_true (by kernel_rfl)) k2 bel lt2) trodAll_mk0))), rfl, bel.frame _, fun h => by cases h⟩

theorem crcLines_over : Rows.crcLinesRow.holds Try.pinned (OpenSpec.ofChange Rows.crcLinesSpec) :=
  OpenClaim.holds_of_wide 7 Try.f7 rfl rfl rfl rfl rfl rfl rfl ⟨rfl, rfl, rfl, rfl, rfl⟩ rfl rfl rfl rfl rfl (by kernel_rfl) Try.func7 (by kernel_rfl)
    (of_decide_eq_true (by kernel_rfl)) (by unfold Func.isWrapper; first | (rw [if_pos (by decide +kernel)]; kernel_rfl) | (rw [if_neg (by decide +kernel)]; exact ⟨rfl, rfl⟩))
    (fun os started H enc _ => crcLines_lifted os started H enc)

theorem crcLines_holds : Rows.CrcLinesSaid := crcLines_over
#print axioms crcLines_holds
end Go.Proofs.Ytoflfendomampaa
