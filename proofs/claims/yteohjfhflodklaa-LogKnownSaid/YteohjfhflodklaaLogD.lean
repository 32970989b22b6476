/- What soundBoot of log does. Condition: a sector of 64 bytes. -/
import Derived.Test.YteohjfhflodklaaLogC
import Derived.BigQuiet
import Derived.Deep.QuietTactic
namespace Go.Proofs.Yteohjfhflodklaa
open Go.RowKit Pen
open Crc (four nx run)
set_option maxRecDepth 4000
theorem Row.sub {w : World} {g off : Nat} {l : List Nat} (h : Row w (some ⟨g, off, none⟩) l) (k : Nat) (hk : k < l.length) : Row w (some ⟨g, off + k, none⟩) (l.drop k) := by
  refine ⟨fun x hx => h.1 x (List.mem_of_mem_drop hx), ?_⟩
  rcases h.2 with h2 | ⟨b, o, ha, hlt, hc⟩
  · exact .inl (by rw [h2]; simp)
  · simp at ha
    obtain ⟨rfl, rfl⟩ := ha
    refine .inr ⟨g, off + k, rfl, hlt, fun i hi => ?_⟩
    have hi' : k + i < l.length := by simp at hi; omega
    rw [Nat.add_assoc, hc (k + i) hi']
    simp
def Rows2 (w : World) (a b : Option Addr) (l m : List Nat) (n k : Nat) : Prop := Row w a l ∧ Row w b m ∧ l.length = n ∧ m.length = k
theorem rows2 {w : World} {a b : Option Addr} {l m : List Nat} {n k : Nat} (h1 : Row w a l) (h2 : Row w b m) (h3 : l.length = n) (h4 : m.length = k) : Rows2 w a b l m n k := ⟨h1, h2, h3, h4⟩
theorem eqq {w : World} {a b : Option Addr} {l m : List Nat} {n k c d : Nat} (h : Rows2 w a b l m n k) (j : Nat) : Calls Try.prog 66 #[.slice a n c, .slice b k d] (w.drewN j) fun e w' => e = .returned (.bool (decide (l = m))) ∧ ∃ i, w' = w.drewN i := by
  obtain ⟨h1, h2, h3, h4⟩ := h
  exact Calls.quiet_of_same (equal_any (w := w.drewN j) a b l m n k c d h3 h4 ⟨h1.1, h1.2⟩ ⟨h2.1, h2.2⟩)
set_option maxHeartbeats 2000000 in
theorem sound_any {w : World} {g : Nat} {l : List Nat} (n : Nat) (h : Buf w g l) (hl : l.length = 64) :
    Calls Try.prog 63 #[.slice (some ⟨g, 0, none⟩) 64 64, .int .i64 (n : Int)] w fun e w' => e = .returned (.int .i64 (sb l n)) ∧ Below w.heap.size w w' := by
  have hr := h.row
  have r1 := hid (row_take hr 4)
  have r2 := hid (Row.sub hr 60 (by omega))
  have r3 := hid (row_take (Row.sub hr 4 (by omega)) 2)
  rw [Nat.zero_add] at r2 r3
  have e1 : Hid ((l.take 4).length = 4) := by show _ = _; rw [List.length_take]; omega
  have e2 : Hid ((l.drop 60).length = 4) := by show _ = _; rw [List.length_drop]; omega
  have e3 : Hid (((l.drop 4).take 2).length = 2) := by show _ = _; rw [List.length_take, List.length_drop]; omega
  have HSB : Hid (sb l n = if l.take 4 = l.drop 60 ∧ (l.drop 4).take 2 = two n then (le (l.take 4) : Int) else -1) := rfl
  generalize sb l n = z at *
  have HLT : Hid (le (l.take 4) < 4294967296) := by
    have h0 := le_lt (l.take 4) (fun x hx => hr.1 x (List.mem_of_mem_take hx))
    rw [e1.out] at h0
    have e : (256 : Nat) ^ 4 = 4294967296 := by decide
    show _ < _
    omega
  have HT := hid (low_two n)
  generalize l.take 4 = t at *
  generalize l.drop 60 = u at *
  generalize (l.drop 4).take 2 = v at *
  clear h hr hl
  go_enter Try.func63, Try.ntmps63
  go_wp2_with fail
  go_quiet (fail)
  have HB1 : Hid (Below w.heap.size w (w.drewN nq)) := ⟨rfl, rfl, rfl, Nat.le_refl _, fun _ _ => rfl⟩
  generalize w.drewN nq = w1 at *
  go_wp2_with fail
  by_cases htu : t = u
  · have hd1 : decide (t = u) = true := by simp [htu]
    by_cases hvn : v = two n
    · have hd2 : decide (v = two n) = true := by simp [hvn]
      have HZ : Hid (z = (le t : Int)) := by show _ = _; rw [HSB.out, if_pos ⟨htu, hvn⟩]
      go_region_held (fun W => Below w1.heap.size w1 W) (first | assumption | (refine Below.drew ?_; exact Below.refl _ _)) (first
        | (go_at_call 66; refine (equal_any (some ⟨g, 0, none⟩) (some ⟨g, 60, none⟩) t u 4 4 64 4 e1.out e2.out ((r1.out.below HB1.out).below ?_) ((r2.out.below HB1.out).below ?_)).mono ?_; assumption; assumption; rintro e wA ⟨rfl, rfl⟩; rw [hd1])
        | (go_at_call 61; refine (lowest2 _ n).mono ?_; rintro e wB ⟨gB, rfl, hoB, hbB, hgB⟩; rw [HT.out] at hoB; have hbB2 := below_tr ‹Below w1.heap.size w1 _› hbB (Below.size ‹Below w1.heap.size w1 _›); have HRB := hid hoB.row; clear hoB)
        | (go_at_call 66; refine (equal_any (some ⟨g, 4, none⟩) (some ⟨gB, 0, none⟩) v (two n) 2 2 60 2 e3.out rfl ((r3.out.below HB1.out).below ?_) HRB.out).mono ?_; assumption; rintro e wA ⟨rfl, rfl⟩; rw [hd2]))
      have HBB := hid (below_tr HB1.out hbB2 HB1.out.size)
      clear hbB2 hbB hgB HRB
      clear HSB HT e2 e3 r2 r3
      have HC : Hid (∀ i, i < 4 → wA.cell? ⟨g, i, none⟩ = some (.int .u8 (t.getD i 0 : Nat))) := fun i hi => by
        obtain ⟨b, off, ha, _, hc⟩ := (r1.out.below HBB.out).2.resolve_left (by intro e; have := e1.out; rw [e] at this; simp at this)
        simp at ha
        obtain ⟨rfl, rfl⟩ := ha
        have := hc i (by rw [e1.out]; exact hi)
        rwa [Nat.zero_add] at this
      have HTT : Hid (∀ x ∈ t, x < 256) := r1.out.1
      clear r1 HB1 hd1 hd2 htu hvn
      go_wp2_with fail
      go_loopg [7, 28] 4 (fun k v3 v9 wr => ∃ i : Nat, i + k = 4 ∧ v9 = .int .i64 (i : Int) ∧ v3 = .int .u32 (le (t.take i) : Nat) ∧ wr = wA)
      case atStart => exact ⟨0, rfl, rfl, rfl, rfl⟩
      case round =>
        obtain ⟨i, hi, rfl, rfl, rfl⟩ := hrel
        have HI := hid hi
        by_cases hi4 : i < 4
        · have hii : (i : Int) < 4 := by omega
          have hc := HC.out i hi4
          have hor := last_or t i HTT.out hi4 e1.out
          have hB := getD_lt HTT.out i
          generalize t.getD i 0 = x at *
          generalize le (t.take i) = K0 at *
          generalize hK1 : le (t.take (i + 1)) = K1 at *
          have HK1 := hid hK1
          have hw1 := wrap_u32 x (by omega)
          have hw2 : IntKind.i64.wrap (8 * (i : Int)) = 8 * (i : Int) := by have := wrap_i64 (8 * i) (by omega); simpa using this
          have HOR := hid hor
          clear hK1 hor hi
          go_wp2_with fail
          go_roundg (gk - 1)
          case measure => have := HI.out; omega
          case rel =>
            refine ⟨i + 1, by have := HI.out; omega, by go_num, ?_, rfl⟩
            rw [HK1.out]
            first
              | exact congrArg (Value.int .u32) HOR.out
              | (rw [show (8 * (i : Int)).toNat = 8 * i by omega, HOR.out])
        · have hii : ¬ (i : Int) < 4 := by omega
          obtain rfl : i = 4 := by omega
          rw [List.take_of_length_le (by rw [e1.out]; exact Nat.le_refl _)]
          clear hi HI
          generalize hKe : le t = K at HLT HZ ⊢
          have HKe := hid hKe
          have hK := HLT.out
          clear hKe
          go_wp2_with fail
          go_ret
          exact ⟨by rw [HZ.out]; rfl, HBB.out⟩
    · have hd2 : decide (v = two n) = false := by simp [hvn]
      have HZ : Hid (z = -1) := by show _ = _; rw [HSB.out, if_neg (fun h => hvn h.2)]
      go_region_held (fun W => Below w1.heap.size w1 W) (first | assumption | (refine Below.drew ?_; exact Below.refl _ _)) (first
        | (go_at_call 66; refine (equal_any (some ⟨g, 0, none⟩) (some ⟨g, 60, none⟩) t u 4 4 64 4 e1.out e2.out ((r1.out.below HB1.out).below ?_) ((r2.out.below HB1.out).below ?_)).mono ?_; assumption; assumption; rintro e wA ⟨rfl, rfl⟩; rw [hd1])
        | (go_at_call 61; refine (lowest2 _ n).mono ?_; rintro e wB ⟨gB, rfl, hoB, hbB, hgB⟩; rw [HT.out] at hoB; have hbB2 := below_tr ‹Below w1.heap.size w1 _› hbB (Below.size ‹Below w1.heap.size w1 _›); have HRB := hid hoB.row; clear hoB)
        | (go_at_call 66; refine (equal_any (some ⟨g, 4, none⟩) (some ⟨gB, 0, none⟩) v (two n) 2 2 60 2 e3.out rfl ((r3.out.below HB1.out).below ?_) HRB.out).mono ?_; assumption; rintro e wA ⟨rfl, rfl⟩; rw [hd2]))
      have HBB := hid (below_tr HB1.out hbB2 HB1.out.size)
      go_wp2_with fail
      go_ret
      exact ⟨by rw [HZ.out]; rfl, HBB.out⟩
  · have hd1 : decide (t = u) = false := by simp [htu]
    have HZ : Hid (z = -1) := by show _ = _; rw [HSB.out, if_neg (fun h => htu h.1)]
    have hq := fun k => eqq (rows2 (r1.out.below HB1.out) (r2.out.below HB1.out) e1.out e2.out) (c := 64) (d := 4) k
    rw [hd1] at hq
    go_quiet (exact hq _)
    have HBB : Hid (Below w.heap.size w (w1.drewN nq)) := ⟨HB1.out.os, HB1.out.tape, HB1.out.output, HB1.out.size, HB1.out.block⟩
    clear hq
    go_wp2_with fail
    go_ret
    exact ⟨by rw [HZ.out]; rfl, HBB.out⟩
end Go.Proofs.Yteohjfhflodklaa
