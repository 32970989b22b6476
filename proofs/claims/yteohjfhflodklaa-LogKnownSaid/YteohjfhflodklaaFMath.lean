/- Frames as plain mathematics: what is one, that it is read as it was made, that turned bytes, another last and a missing end make none. No condition but the sizes named. -/
import Derived.Test.YteohjfhflodklaaBase
namespace Go.Proofs.Yteohjfhflodklaa
open Go.RowKit Pen
open Crc (four nx run)
def mk (last boot : Nat) (r : List Nat) : List Nat := four r.length ++ (four boot ++ (four (nx last (four r.length ++ four boot)) ++ (r ++ four (nx last r))))
theorem mk_len (last boot : Nat) (r : List Nat) : (mk last boot r).length = r.length + 16 := by
  simp only [mk, List.length_append, four_len]; omega
def rd (last : Nat) (X : List Nat) : Option (List Nat × Nat) :=
  if 1 ≤ le (X.take 4) ∧ le (X.take 4) ≤ 16384 ∧ le (X.take 4) + 16 ≤ X.length ∧ le ((X.drop 4).take 4) < 2147483648 ∧ mk last (le ((X.drop 4).take 4)) ((X.drop 12).take (le (X.take 4))) = X.take (le (X.take 4) + 16)
  then some ((X.drop 12).take (le (X.take 4)), le ((X.drop 4).take 4)) else none
theorem mk_parts (last boot : Nat) (r m : List Nat) : (mk last boot r ++ m).take 4 = four r.length ∧ ((mk last boot r ++ m).drop 4).take 4 = four boot ∧ ((mk last boot r ++ m).drop 8).take 4 = four (nx last (four r.length ++ four boot)) ∧ (mk last boot r ++ m).drop 12 = r ++ (four (nx last r) ++ m) := by
  have e : mk last boot r ++ m = four r.length ++ (four boot ++ (four (nx last (four r.length ++ four boot)) ++ (r ++ (four (nx last r) ++ m)))) := by simp only [mk, List.append_assoc]
  rw [e]
  have d4 : (four r.length ++ (four boot ++ (four (nx last (four r.length ++ four boot)) ++ (r ++ (four (nx last r) ++ m))))).drop 4 = four boot ++ (four (nx last (four r.length ++ four boot)) ++ (r ++ (four (nx last r) ++ m))) := List.drop_left' (four_len _)
  have d8 : (four r.length ++ (four boot ++ (four (nx last (four r.length ++ four boot)) ++ (r ++ (four (nx last r) ++ m))))).drop 8 = four (nx last (four r.length ++ four boot)) ++ (r ++ (four (nx last r) ++ m)) := by
    rw [show 8 = 4 + 4 from rfl, ← List.drop_drop, d4]
    exact List.drop_left' (four_len _)
  refine ⟨List.take_left' (four_len _), ?_, ?_, ?_⟩
  · rw [d4]; exact List.take_left' (four_len _)
  · rw [d8]; exact List.take_left' (four_len _)
  · rw [show 12 = 8 + 4 from rfl, ← List.drop_drop, d8]
    exact List.drop_left' (four_len _)
theorem rd_iff {last : Nat} {X r : List Nat} {b : Nat} : rd last X = some (r, b) ↔ 1 ≤ r.length ∧ r.length ≤ 16384 ∧ b < 2147483648 ∧ ∃ m, X = mk last b r ++ m := by
  constructor
  · intro h
    unfold rd at h
    split at h
    · next hc =>
      obtain ⟨h1, h2, h3, h4, h5⟩ := hc
      simp only [Option.some.injEq, Prod.mk.injEq] at h
      obtain ⟨rfl, rfl⟩ := h
      have hl : ((X.drop 12).take (le (X.take 4))).length = le (X.take 4) := by rw [List.length_take, List.length_drop]; omega
      refine ⟨by omega, by omega, h4, X.drop (le (X.take 4) + 16), ?_⟩
      rw [h5, List.take_append_drop]
    · cases h
  · rintro ⟨h1, h2, h3, m, rfl⟩
    obtain ⟨p1, p2, p3, p4⟩ := mk_parts last b r m
    have e1 : le ((mk last b r ++ m).take 4) = r.length := by rw [p1, le_four (by omega)]
    have e2 : le (((mk last b r ++ m).drop 4).take 4) = b := by rw [p2, le_four (by omega)]
    have e3 : ((mk last b r ++ m).drop 12).take r.length = r := by rw [p4]; exact List.take_left' rfl
    have e4 : (mk last b r ++ m).take (r.length + 16) = mk last b r := List.take_left' (mk_len _ _ _)
    unfold rd
    rw [e1, e2, e3, e4, if_pos]
    refine ⟨h1, h2, ?_, h3, rfl⟩
    rw [List.length_append, mk_len]; omega
theorem rd_mk {last b : Nat} {r : List Nat} (h1 : 1 ≤ r.length) (h2 : r.length ≤ 16384) (hb : b < 2147483648) (m : List Nat) : rd last (mk last b r ++ m) = some (r, b) := rd_iff.2 ⟨h1, h2, hb, m, rfl⟩
theorem rd_mk0 {last b : Nat} {r : List Nat} (h1 : 1 ≤ r.length) (h2 : r.length ≤ 16384) (hb : b < 2147483648) : rd last (mk last b r) = some (r, b) := rd_iff.2 ⟨h1, h2, hb, [], (List.append_nil _).symm⟩
theorem four_inj {a b : Nat} (ha : a < 4294967296) (hb : b < 4294967296) (h : four a = four b) : a = b := by
  rw [← le_four ha, h, le_four hb]
theorem nx_last {c d : Nat} (hc : c < 4294967296) (hd : d < 4294967296) (A : List Nat) (hA : ∀ x ∈ A, x < 256) (h : nx c A = nx d A) : c = d := by
  unfold nx at h
  have h1 := Crc.run_lt A (Crc.flip_lt c) hA
  have h2 := Crc.run_lt A (Crc.flip_lt d) hA
  have h3 : run (Crc.flip c) A = run (Crc.flip d) A := by
    rw [← Crc.flip_flip h1, h, Crc.flip_flip h2]
  have h4 := Crc.run_inj A (Crc.flip_lt c) (Crc.flip_lt d) h3
  rw [← Crc.flip_flip hc, h4, Crc.flip_flip hd]
theorem head_lt {n b : Nat} (hn : n < 4294967296) (hb : b < 4294967296) : ∀ x ∈ four n ++ four b, x < 256 := by
  intro x hx
  rcases List.mem_append.1 hx with h | h
  · exact Crc.four_lt hn x h
  · exact Crc.four_lt hb x h
theorem mk_lt {last b : Nat} {r : List Nat} (h2 : r.length ≤ 16384) (hb : b < 2147483648) (hr : ∀ x ∈ r, x < 256) : ∀ x ∈ mk last b r, x < 256 := by
  intro x hx
  simp only [mk, List.mem_append] at hx
  rcases hx with h | h | h | h | h
  · exact Crc.four_lt (by omega) x h
  · exact Crc.four_lt (by omega) x h
  · exact Crc.four_lt (Crc.nx_lt _ _) x h
  · exact hr x h
  · exact Crc.four_lt (Crc.nx_lt _ _) x h
/-- A frame behind another last is none. -/
theorem rd_other {l1 l2 b : Nat} {r : List Nat} (h1 : l1 < 4294967296) (h2 : l2 < 4294967296) (hne : l1 ≠ l2) (hr : r.length ≤ 16384) (hb : b < 2147483648) (m : List Nat) : rd l2 (mk l1 b r ++ m) = none := by
  cases h : rd l2 (mk l1 b r ++ m) with
  | none => rfl
  | some p =>
    obtain ⟨r', b'⟩ := p
    obtain ⟨k1, k2, k3, m', e⟩ := rd_iff.1 h
    obtain ⟨p1, p2, p3, p4⟩ := mk_parts l1 b r m
    obtain ⟨q1, q2, q3, q4⟩ := mk_parts l2 b' r' m'
    rw [← e] at q1 q2 q3
    have e1 := four_inj (by omega) (by omega) (p1.symm.trans q1)
    have e2 := four_inj (by omega) (by omega) (p2.symm.trans q2)
    have e3 := four_inj (Crc.nx_lt _ _) (Crc.nx_lt _ _) (p3.symm.trans q3)
    rw [e1, e2] at e3
    exact absurd (nx_last h1 h2 _ (head_lt (by omega) (by omega)) e3) hne
theorem mk_inj {l1 l2 b1 b2 : Nat} {r : List Nat} (h1 : l1 < 4294967296) (h2 : l2 < 4294967296) (hr : r.length ≤ 16384) (hb1 : b1 < 2147483648) (hb2 : b2 < 2147483648) : mk l1 b1 r = mk l2 b2 r ↔ l1 = l2 ∧ b1 = b2 := by
  constructor
  · intro h
    obtain ⟨p1, p2, p3, p4⟩ := mk_parts l1 b1 r []
    obtain ⟨q1, q2, q3, q4⟩ := mk_parts l2 b2 r []
    rw [← h] at q1 q2 q3
    have e2 := four_inj (by omega) (by omega) (p2.symm.trans q2)
    have e3 := four_inj (Crc.nx_lt _ _) (Crc.nx_lt _ _) (p3.symm.trans q3)
    rw [e2] at e3
    exact ⟨nx_last h1 h2 _ (head_lt (by omega) (by omega)) e3, e2⟩
  · rintro ⟨rfl, rfl⟩; rfl
/-- A frame of which the end is missing is none. -/
theorem rd_cut {last b : Nat} {r : List Nat} (hr : r.length ≤ 16384) (k : Nat) (hk : k < r.length + 16) : rd last ((mk last b r).take k) = none := by
  cases h : rd last ((mk last b r).take k) with
  | none => rfl
  | some p =>
    obtain ⟨r', b'⟩ := p
    obtain ⟨k1, k2, k3, m', e⟩ := rd_iff.1 h
    have hl := congrArg List.length e
    rw [List.length_take, mk_len, List.length_append, mk_len] at hl
    obtain ⟨p1, p2, p3, p4⟩ := mk_parts last b r []
    obtain ⟨q1, q2, q3, q4⟩ := mk_parts last b' r' m'
    rw [← e, List.take_take, Nat.min_eq_left (by omega)] at q1
    rw [List.append_nil] at p1
    have e1 := four_inj (by omega) (by omega) (p1.symm.trans q1)
    omega
theorem fits {c : Nat} (A : List Nat) (hA : ∀ x ∈ A, x < 256) : run (Crc.flip c) (A ++ four (nx c A)) = Crc.shN 32 4294967295 := by
  have hr : run (Crc.flip c) A < 4294967296 := Crc.run_lt A (Crc.flip_lt c) hA
  have hs : nx c A = run (Crc.flip c) A ^^^ 4294967295 := Crc.flip_xor hr
  rw [Crc.run_append, Crc.run_word (four _), Crc.word_four _ (Crc.nx_lt c A), hs, ← Nat.xor_assoc, Nat.xor_self, Nat.zero_xor, four_len]
theorem near_run {a c : Nat} {l m : List Nat} (hc : c < 4294967296) (h : Near a l m) (hl : ∀ x ∈ l, x < 256) (hm : ∀ x ∈ m, x < 256) (e : run c l = run c m) : l = m := by
  obtain ⟨h1, h2⟩ := h.parts
  have d1 : l = l.take a ++ ((l.drop a).take 4 ++ l.drop (a + 4)) := by rw [← List.drop_drop, List.take_append_drop, List.take_append_drop]
  have d2 : m = l.take a ++ ((m.drop a).take 4 ++ l.drop (a + 4)) := by rw [h1, h2, ← List.drop_drop, List.take_append_drop, List.take_append_drop]
  rw [d1, d2, Crc.run_append, Crc.run_append, Crc.run_append, Crc.run_append] at e
  have p256 : ∀ x ∈ l.take a, x < 256 := fun x hx => hl x (List.mem_of_mem_take hx)
  have u256 : ∀ x ∈ (l.drop a).take 4, x < 256 := fun x hx => hl x (List.mem_of_mem_drop (List.mem_of_mem_take hx))
  have v256 : ∀ x ∈ (m.drop a).take 4, x < 256 := fun x hx => hm x (List.mem_of_mem_drop (List.mem_of_mem_take hx))
  have hp := Crc.run_lt (l.take a) hc p256
  have e2 := Crc.run_inj (l.drop (a + 4)) (Crc.run_lt _ hp u256) (Crc.run_lt _ hp v256) e
  have hlen := h.1
  have e3 := Crc.run_inj_text ((l.drop a).take 4) ((m.drop a).take 4) (by simp; omega) (by simp; omega) u256 v256 e2
  rw [d1, e3, ← d2]
theorem Near.take {a : Nat} {l m : List Nat} (h : Near a l m) (k : Nat) : Near a (l.take k) (m.take k) := by
  have hl := h.1
  refine ⟨by simp; omega, fun j hj hne => ?_⟩
  have hj' : j < k ∧ j < l.length := by simp at hj; omega
  rw [getD_take _ _ _ hj'.1, getD_take _ _ _ hj'.1] at hne
  exact h.2 j hj'.2 hne
theorem Near.drop {a : Nat} {l m : List Nat} (h : Near a l m) (k : Nat) : Near (a - k) (l.drop k) (m.drop k) := by
  have hl := h.1
  refine ⟨by simp; omega, fun j hj hne => ?_⟩
  have hj' : k + j < l.length := by simp at hj; omega
  rw [getD_drop, getD_drop] at hne
  have := h.2 _ hj' hne
  omega
theorem mk_head (last b : Nat) (r m : List Nat) : (mk last b r ++ m).take 12 = (four r.length ++ four b) ++ four (nx last (four r.length ++ four b)) := by
  have e : mk last b r ++ m = ((four r.length ++ four b) ++ four (nx last (four r.length ++ four b))) ++ (r ++ (four (nx last r) ++ m)) := by simp only [mk, List.append_assoc]
  rw [e]
  exact List.take_left' rfl
/-- A frame of which up to four bytes one behind another are turned is none. -/
theorem near_none {a last b : Nat} {r Y : List Nat} (h2 : r.length ≤ 16384) (hb : b < 2147483648) (hr : ∀ x ∈ r, x < 256) (hY : ∀ x ∈ Y, x < 256) (h : Near a (mk last b r) Y) (hne : Y ≠ mk last b r) : rd last Y = none := by
  cases hp : rd last Y with
  | none => rfl
  | some p =>
    obtain ⟨r', b'⟩ := p
    obtain ⟨k1, k2, k3, m', e⟩ := rd_iff.1 hp
    have hX := mk_lt (last := last) h2 hb hr
    have t1 := mk_head last b r []
    rw [List.append_nil] at t1
    have t2 := mk_head last b' r' m'
    rw [← e] at t2
    have hh := near_run (Crc.flip_lt last) (h.take 12) (fun x hx => hX x (List.mem_of_mem_take hx)) (fun x hx => hY x (List.mem_of_mem_take hx)) (by
      rw [t1, t2, fits _ (head_lt (by omega) (by omega)), fits _ (head_lt (by omega) (by omega))])
    have g4 : (mk last b r).take 4 = Y.take 4 := by
      have := congrArg (List.take 4) hh
      rwa [List.take_take, List.take_take] at this
    have g8 : ((mk last b r).drop 4).take 4 = (Y.drop 4).take 4 := by
      have := congrArg (fun l => (List.drop 4 l).take 4) hh
      simp only [List.drop_take, List.take_take] at this
      exact this
    obtain ⟨p1, p2, p3, p4⟩ := mk_parts last b r []
    obtain ⟨q1, q2, q3, q4⟩ := mk_parts last b' r' m'
    rw [List.append_nil] at p1 p2 p4
    rw [← e] at q1 q2 q4
    have e1 := four_inj (by omega) (by omega) (p1.symm.trans (g4.trans q1))
    have e2 := four_inj (by omega) (by omega) (p2.symm.trans (g8.trans q2))
    have hlen := h.1
    have hlY := congrArg List.length e
    rw [mk_len] at hlen
    rw [List.length_append, mk_len] at hlY
    have hm : m' = [] := List.length_eq_zero_iff.1 (by omega)
    subst hm
    rw [List.append_nil] at e q4 p4
    have hr' : ∀ x ∈ r', x < 256 := fun x hx => hY x (by rw [e]; simp only [mk, List.mem_append]; exact .inr (.inr (.inr (.inl hx))))
    have ht := near_run (Crc.flip_lt last) (h.drop 12) (fun x hx => hX x (List.mem_of_mem_drop hx)) (fun x hx => hY x (List.mem_of_mem_drop hx)) (by
      rw [p4, q4, fits _ hr, fits _ hr'])
    rw [p4, q4] at ht
    have hrr : r = r' := by
      have := congrArg (List.take r.length) ht
      rwa [List.take_left' rfl, List.take_left' e1.symm] at this
    exact absurd (by rw [e, hrr, e2]) hne
theorem turn_ends {last b : Nat} {r Y : List Nat} {a i : Nat} {c : Bool} (h1 : 1 ≤ r.length) (h2 : r.length ≤ 16384) (hb : b < 2147483648) (hr : ∀ x ∈ r, x < 256) (h : Turn (mk last b r) Y a i c) (hi : i ≤ 4) (hY : ∀ x ∈ Y, x < 256) : rd last Y = if c then none else some (r, b) := by
  cases c with
  | false =>
    rw [h.no rfl, rd_mk0 h1 h2 hb]
    rfl
  | true =>
    obtain ⟨j, _, _, h3⟩ := h.yes rfl
    exact near_none (a := a) h2 hb hr hY ⟨h.len.symm, fun j _ hj => by have := h.near j hj; omega⟩ (fun e => h3 (by rw [e]))
end Go.Proofs.Yteohjfhflodklaa
