/- A log's disk whose bytes are turned one by one: what its sectors then hold. No condition. -/
import Derived.Test.YteohjfhflodklaaSeesM
import Derived.Test.YteohjfhflodklaaLogX
namespace Go.Proofs.Yteohjfhflodklaa
open Go.RowKit Pen
theorem over_one (a : List Nat) (y b : Nat) (h : y < a.length) : over a y [b] = a.set y b := by
  rw [List.set_eq_take_append_cons_drop, if_pos h]
  rfl
theorem spoilt_last (s : Sec) (y : Nat) (b : List Nat) : (spoilt s y b).last = over s.last y b := by
  unfold spoilt Sec.last
  cases s.waits <;> rfl
theorem spoil_read (d : Dk) (i y : Nat) (b : List Nat) (hi : i < d.secs.length) (j : Nat) : (d.spoil i y b).read j = if j = i then over (d.read i) y b else d.read j := by
  unfold Dk.read Dk.spoil
  by_cases e : j = i
  · subst e
    rw [if_pos rfl]
    simp only [List.getD_eq_getElem?_getD]
    rw [List.getElem?_set_self hi, Option.getD_some, spoilt_last]
  · rw [if_neg e]
    simp only [List.getD_eq_getElem?_getD]
    rw [List.getElem?_set_ne (fun h => e h.symm)]
/-- What is laid upon byte g when the bytes from K on are turned by t, i of them. -/
def tau (K t i g : Nat) : Nat := if K ≤ g ∧ g < K + i then t / 2 ^ (8 * (g - K)) % 256 else 0
structure Bent (d d' : Dk) (segs : List Nat) (K t i : Nat) : Prop where
  len : d'.secs.length = d.secs.length
  dead : d'.dead = d.dead
  eq : ∀ n, n < 8 * segs.length → ∀ j, j < 64 → (pl d' segs n).getD j 0 = (pl d segs n).getD j 0 ^^^ tau K t i (64 * n + j)
theorem Bent.start (d : Dk) (segs : List Nat) (K t : Nat) : Bent d d segs K t 0 := ⟨rfl, rfl, fun n _ j _ => by
  unfold tau
  rw [if_neg (by omega), Nat.xor_zero]⟩
theorem Bent.step {d d' : Dk} {segs : List Nat} {K t i n y : Nat} (h : Bent d d' segs K t i) (hs : Has d segs) (hn : segs.Nodup) (hn1 : n < 8 * segs.length) (hy : y < 64) (hg : 64 * n + y = K + i) (hl : (pl d' segs n).length = 64) :
    Bent d (d'.spoil (num segs n) y [(pl d' segs n).getD y 0 ^^^ t / 2 ^ (8 * i) % 256]) segs K t (i + 1) := by
  have hlt : num segs n < d'.secs.length := by rw [h.len]; exact num_lt hs hn1
  refine ⟨by simp only [Dk.spoil, List.length_set]; exact h.len, h.dead, fun m hm j hj => ?_⟩
  have h0 := h.eq m hm j hj
  unfold pl at h0 hl ⊢
  rw [spoil_read _ _ _ _ hlt]
  by_cases e : num segs m = num segs n
  · have e2 : m = n := num_inj hn hm hn1 e
    subst e2
    rw [if_pos rfl, over_one _ _ _ (by omega), getD_set_nat _ _ _ _ (by omega)]
    by_cases ey : j = y
    · subst ey
      rw [if_pos rfl, h0]
      unfold tau
      rw [if_neg (by omega), if_pos (by omega), Nat.xor_zero, show 64 * m + j - K = i by omega]
    · rw [if_neg (fun e => ey e.symm), h0]
      unfold tau
      by_cases hc : K ≤ 64 * m + j ∧ 64 * m + j < K + i
      · rw [if_pos hc, if_pos (by omega)]
      · rw [if_neg hc, if_neg (by omega)]
  · have e2 : m ≠ n := fun e2 => e (by rw [e2])
    rw [if_neg e, h0]
    unfold tau
    by_cases hc : K ≤ 64 * m + j ∧ 64 * m + j < K + i
    · rw [if_pos hc, if_pos (by omega)]
    · rw [if_neg hc, if_neg (by omega)]
/-- Is a byte turned that the log covers? -/
def struck (K t ll i : Nat) : Bool := (List.range i).any fun m => (t / 2 ^ (8 * m) % 256 != 0) && decide (K + m < 64 * ll)
theorem struck_zero (K t ll : Nat) : struck K t ll 0 = false := rfl
theorem struck_succ (K t ll i : Nat) : struck K t ll (i + 1) = (struck K t ll i || ((t / 2 ^ (8 * i) % 256 != 0) && decide (K + i < 64 * ll))) := by
  unfold struck
  rw [List.range_succ, List.any_append]
  simp
theorem xor_same {a t : Nat} (h : a ^^^ t = a) : t = 0 := by
  have h1 : a ^^^ (a ^^^ t) = a ^^^ a := by rw [h]
  rwa [← Nat.xor_assoc, Nat.xor_self, Nat.zero_xor] at h1
theorem Bent.turned {d d' : Dk} {segs : List Nat} {K t i ll : Nat} (h : Bent d d' segs K t i) (hi : i ≤ 4) (hll : ll ≤ 8 * segs.length) (h1 : ∀ n, n < 8 * segs.length → Bytes (pl d segs n)) (h2 : ∀ n, n < 8 * segs.length → Bytes (pl d' segs n)) : Turned (pl d segs) (pl d' segs) ll K :=
  ⟨fun n hn => ⟨(h1 n (by omega)).1, (h2 n (by omega)).1⟩, fun n hn => (h2 n (by omega)).2, fun n hn j hj e => by
    rw [h.eq n (by omega) j hj] at e
    unfold tau at e
    by_cases hc : K ≤ 64 * n + j ∧ 64 * n + j < K + i
    · omega
    · rw [if_neg hc, Nat.xor_zero] at e
      exact absurd rfl e⟩
theorem Bent.hit {d d' : Dk} {segs : List Nat} {K t i ll : Nat} (h : Bent d d' segs K t i) (hll : ll ≤ 8 * segs.length) (hs : struck K t ll i = true) : ∃ n, n < ll ∧ ∃ j, j < 64 ∧ (pl d' segs n).getD j 0 ≠ (pl d segs n).getD j 0 := by
  unfold struck at hs
  obtain ⟨m, hm, hx⟩ := List.any_eq_true.1 hs
  have hmi := List.mem_range.1 hm
  simp only [Bool.and_eq_true, bne_iff_ne, decide_eq_true_eq] at hx
  obtain ⟨h1, h2⟩ := hx
  refine ⟨(K + m) / 64, by omega, (K + m) % 64, by omega, fun e => h1 ?_⟩
  rw [h.eq _ (by omega) _ (by omega)] at e
  have := xor_same e
  unfold tau at this
  rwa [if_pos (by omega), show 64 * ((K + m) / 64) + (K + m) % 64 - K = m by omega] at this
theorem Bent.miss {d d' : Dk} {segs : List Nat} {K t i ll : Nat} (h : Bent d d' segs K t i) (hll : ll ≤ 8 * segs.length) (hs : struck K t ll i = false) : ¬ ∃ n, n < ll ∧ ∃ j, j < 64 ∧ (pl d' segs n).getD j 0 ≠ (pl d segs n).getD j 0 := by
  rintro ⟨n, hn, j, hj, e⟩
  rw [h.eq n (by omega) j hj] at e
  unfold tau at e
  by_cases hc : K ≤ 64 * n + j ∧ 64 * n + j < K + i
  · rw [if_pos hc] at e
    have : struck K t ll i = true := by
      unfold struck
      refine List.any_eq_true.2 ⟨64 * n + j - K, List.mem_range.2 (by omega), ?_⟩
      simp only [Bool.and_eq_true, bne_iff_ne, decide_eq_true_eq]
      refine ⟨fun e0 => e ?_, by omega⟩
      rw [e0, Nat.xor_zero]
    rw [hs] at this
    cases this
  · rw [if_neg hc, Nat.xor_zero] at e
    exact e rfl
theorem disk_bytes {w : World} {q p : Nat} {d : Dk} (h : DiskAt w q p d) {segs : List Nat} (hs : Has d segs) : ∀ n, n < 8 * segs.length → Bytes (pl d segs n) := fun _ hn => (h.ok.1.get _ (num_lt hs hn)).last
end Go.Proofs.Yteohjfhflodklaa
