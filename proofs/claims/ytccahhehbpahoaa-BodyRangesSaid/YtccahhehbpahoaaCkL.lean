/- What Put, Set and Get of a store do. Condition: numbers below nine million million million. -/
import Derived.Test.YtccahhehbpahoaaCkK
namespace Go.Proofs.Ytccahhehbpahoaa
open Go.ChangeShapes Go.WideShapes Go.ChangeAt Go.RowKit
open Go.Maps (keyOf_int_mk)
set_option maxRecDepth 4000
set_option linter.unusedVariables false
attribute [local go_sem ↓] Go.wp_at_zero Go.wp_at_succ
theorem keep_any {base : Nat} {w : World} {q n : Nat} {s : St} (h : CkAt base w q n s) (id : Nat) (h0 : 1 ≤ id) (hi : id ≤ 9000000000000000000) (hls : s.last ≤ 9000000000000000000) (ad : Addr) (l : List Nat) (m cap : Nat) (hm : l.length = m) (hrw : Row w (some ad) l) (hl1 : 1 ≤ m) (hl : m ≤ 64) (hn : n ≤ 999999)
    (hno : byId s.ps (id : Int) = none) (ht : byText s.ps l = none) (hb0 : base ≤ w.heap.size) :
    Calls Try.prog 41 #[.pointer (some ⟨q, 0, none⟩), .int .i64 (id : Int), .slice (some ad) m cap] w fun e w' => e = .returned (.tuple #[]) ∧ CkAt base w' q (n + 2) ⟨s.ps ++ [(id, l)], max s.last id⟩ ∧ Chg q base w w' := by
  obtain ⟨hok, hfew, P, N, hq, hmp⟩ := h
  rcases hmp with ⟨rfl, rfl, hps⟩ | ⟨bp, bn, f, g, rfl, rfl, h3, h4, h5, h6, h7, h8, h9⟩
  · exact keep_nil hq hps hok id h0 hi hls ad l m cap hm hrw hl1 hl hn hfew hno ht hb0
  · exact keep_made ⟨hq, h3, h4, h5, h6, h7, h8, h9⟩ hok id h0 hi hls ad l m cap hm hrw hl1 hl hn hfew hno ht hb0
theorem put_some {s : St} {l : List Nat} (h : 1 ≤ l.length ∧ l.length ≤ 64) {n : Nat} (ht : byText s.ps l = some n) : put s l = ((n, false, 0), s) := by
  unfold put
  rw [if_pos h, ht]
theorem put_none {s : St} {l : List Nat} (h : 1 ≤ l.length ∧ l.length ≤ 64) (ht : byText s.ps l = none) : put s l = ((s.last + 1, true, 0), ⟨s.ps ++ [(s.last + 1, l)], s.last + 1⟩) := by
  unfold put
  rw [if_pos h, ht]
theorem put_not {s : St} {l : List Nat} (h : ¬ (1 ≤ l.length ∧ l.length ≤ 64)) : put s l = ((0, false, 1), s) := by
  unfold put
  rw [if_neg h]
theorem eq_ptr (w : World) (q : Nat) : (binOp .eql 52 (.pointer (some ⟨q, 0, none⟩)) (.pointer none)).run Try.prog w = .ok (.bool false) w := by kernel_rfl
theorem row_some {w : World} {a : Option Addr} {l : List Nat} (h : Row w a l) (h1 : 1 ≤ l.length) : ∃ ad, a = some ad := by
  rcases h.2 with h2 | ⟨b, off, ha, _⟩
  · rw [h2] at h1; simp at h1
  · exact ⟨_, ha⟩
set_option maxHeartbeats 400000 in
theorem put_any {base : Nat} {w : World} {q n : Nat} {s : St} (h : CkAt base w q n s) (a : Option Addr) (l : List Nat) (m cap : Nat) (hm : l.length = m) (hr : Row w a l) (hn : n ≤ 999999) (hls : s.last < 9000000000000000000) (hb0 : base ≤ w.heap.size) :
    Calls Try.prog 22 #[.pointer (some ⟨q, 0, none⟩), .slice a m cap] w fun e w' => e = .returned (.tuple #[.int .i64 (((put s l).1.1 : Nat) : Int), .bool (put s l).1.2.1, .int .i64 (((put s l).1.2.2 : Nat) : Int)]) ∧ CkAt base w' q (n + 2) (put s l).2 ∧ Chg q base w w' := by
  have H := hid h
  have HM := hid hm
  have HR := hid hr
  have HB := hid hb0
  have hmay := fun w : World => may_any (w := w) a m cap
  have HMY := hid hmay
  clear hmay
  by_cases hl : 1 ≤ m ∧ m ≤ 64
  · have e : decide (1 ≤ m ∧ m ≤ 64) = true := by simp [hl]
    rw [e] at HMY
    have kf := fun w' (hb : Below w.heap.size w w') => find_any (h.below hb) a l m cap hm (hr.below hb) hl.2 (by omega) (by omega)
    have HF := hid kf
    cases ht : byText s.ps l with
    | some k =>
      rw [ht] at HF
      rw [put_some (by rw [hm]; exact hl) ht]
      simp only [Option.getD_some, Option.isSome_some] at HF ⊢
      clear ht kf hm hr hb0 h
      go_enter Try.func22, Try.ntmps22
      go_wp2_with fail
      refine (HMY.out _).mono ?_
      rintro e w1 ⟨rfl, rfl⟩
      go_wp2_with fail
      refine (HF.out _ (Below.refl _ _)).mono ?_
      rintro e w2 ⟨rfl, hb2⟩
      have HB2 := hid hb2
      clear hb2
      go_wp2_with fail
      go_ret3
      exact ⟨rfl, (H.out.below HB2.out).mono (by omega), Chg.of_below HB2.out⟩
    | none =>
      rw [ht] at HF
      rw [put_none (by rw [hm]; exact hl) ht]
      simp only [Option.getD_none, Option.isSome_none] at HF ⊢
      obtain ⟨ad, rfl⟩ := row_some hr (by omega)
      have HT := hid ht
      have HO := hid h.ok.next
      have HMX : Hid (max s.last (s.last + 1) = s.last + 1) := by show _ = _; omega
      clear ht kf hm hr hb0 h
      go_enter Try.func22, Try.ntmps22
      go_wp2_with fail
      refine (HMY.out _).mono ?_
      rintro e w1 ⟨rfl, rfl⟩
      go_wp2_with fail
      refine (HF.out _ (Below.refl _ _)).mono ?_
      rintro e w2 ⟨rfl, hb2⟩
      have HB2 := hid hb2
      clear hb2
      go_wp2_with fail
      refine (next_any (H.out.below HB2.out) hls).mono ?_
      rintro e w3 ⟨rfl, rfl⟩
      obtain ⟨id, hid'⟩ : ∃ id, s.last + 1 = id := ⟨_, rfl⟩
      rw [hid'] at HO HMX
      have HI := hid hid'
      have hid2 : id ≤ 9000000000000000000 := by omega
      have hid3 : 1 ≤ id := by omega
      rw [hid']
      clear hid'
      go_wp2_with fail
      refine (keep_any (H.out.below HB2.out) id hid3 hid2 (by omega) ad l m cap HM.out (HR.out.below HB2.out) hl.1 hl.2 hn HO.out HT.out (Nat.le_trans HB.out HB2.out.size)).mono ?_
      rintro e w4 ⟨rfl, h4, hc4⟩
      rw [HMX.out] at h4
      have H4 := hid h4
      have HC4 := hid hc4
      clear h4 hc4
      go_wp2_with fail
      go_ret3
      rw [HI.out]
      exact ⟨rfl, H4.out, (Chg.of_below HB2.out).trans HC4.out⟩
  · have e : decide (1 ≤ m ∧ m ≤ 64) = false := by simp; omega
    rw [e] at HMY
    rw [put_not (by rw [hm]; exact hl)]
    clear hm hr hb0 h
    go_enter Try.func22, Try.ntmps22
    go_wp2_with fail
    refine (HMY.out _).mono ?_
    rintro e w1 ⟨rfl, rfl⟩
    go_wp2_with fail
    go_ret3
    exact ⟨rfl, H.out.mono (by omega), Chg.refl _ _ _⟩
end Go.Proofs.Ytccahhehbpahoaa
