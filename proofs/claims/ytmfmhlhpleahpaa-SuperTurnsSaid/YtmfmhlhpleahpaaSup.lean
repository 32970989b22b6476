/- Slots as plain mathematics: what may be, its bytes, what bytes tell; told bytes are heard again. No condition. -/
import Derived.Test.YtmfmhlhpleahpaaPMath
import Derived.Test.YtmfmhlhpleahpaaSee
namespace Go.Proofs.Ytmfmhlhpleahpaa
open Pen Crc
structure Lg where
  segs : List Int
  len : Int
  last : Nat
structure Sp where
  number : Int
  boot : Int
  j : Lg
  c : Lg
/-- The walk over the segments: those that are seen, or none where one may not be. -/
def goSegs (k : Int) (seen : List Int) : List Int → Option (List Int)
  | [] => some seen
  | x :: r => if x < 0 ∨ k ≤ x ∨ x ∈ seen then none else goSegs k (x :: seen) r
def goLogs (k : Int) (seen : List Int) : List Lg → Bool
  | [] => true
  | l :: r => match goSegs k seen l.segs with
    | none => false
    | some s => if l.len < 0 ∨ 8 * (l.segs.length : Int) < l.len then false else goLogs k s r
def fits (z : Int) : Bool := decide (0 ≤ z) && decide (z ≤ 2147483647)
def Sp.may (s : Sp) (k : Int) : Bool := fits s.number && (fits s.boot && goLogs (min k 96) [] [s.j, s.c])
/-- What may be, said plainly. -/
abbrev Sp.Ok (s : Sp) (k : Int) : Prop :=
  (0 ≤ s.number ∧ s.number ≤ 2147483647) ∧ (0 ≤ s.boot ∧ s.boot ≤ 2147483647) ∧ (∀ x ∈ s.j.segs ++ s.c.segs, 0 ≤ x ∧ x < k) ∧ (s.j.segs ++ s.c.segs).Nodup ∧
  (0 ≤ s.j.len ∧ s.j.len ≤ 8 * (s.j.segs.length : Int)) ∧ (0 ≤ s.c.len ∧ s.c.len ≤ 8 * (s.c.segs.length : Int))
theorem goSegs_some (k : Int) : ∀ (l seen s : List Int), goSegs k seen l = some s ↔ ((∀ x ∈ l, 0 ≤ x ∧ x < k ∧ x ∉ seen) ∧ l.Nodup ∧ s = l.reverse ++ seen)
  | [], seen, s => by simp [goSegs, eq_comm]
  | x :: r, seen, s => by
    unfold goSegs
    split
    · next h =>
      constructor
      · intro h'; cases h'
      · rintro ⟨h1, -⟩
        have := h1 x (by simp)
        rcases h with h | h | h
        · omega
        · omega
        · exact absurd h this.2.2
    · next h =>
      rw [goSegs_some k r (x :: seen) s]
      constructor
      · rintro ⟨h1, h2, h3⟩
        refine ⟨?_, ?_, by simp [h3]⟩
        · intro y hy
          rcases List.mem_cons.1 hy with rfl | hy
          · exact ⟨by omega, by omega, fun hm => h (.inr (.inr hm))⟩
          · have := h1 y hy
            exact ⟨this.1, this.2.1, fun hm => this.2.2 (by simp [hm])⟩
        · exact List.nodup_cons.2 ⟨fun hm => (h1 x hm).2.2 (by simp), h2⟩
      · rintro ⟨h1, h2, h3⟩
        obtain ⟨h4, h5⟩ := List.nodup_cons.1 h2
        refine ⟨?_, h5, by simp [h3]⟩
        intro y hy
        have := h1 y (by simp [hy])
        exact ⟨this.1, this.2.1, fun hm => by
          rcases List.mem_cons.1 hm with rfl | hm
          · exact h4 hy
          · exact this.2.2 hm⟩
theorem goLogs_iff (k : Int) : ∀ (ls : List Lg) (seen : List Int), goLogs k seen ls = true ↔ ((∀ x ∈ (ls.map (·.segs)).flatten, 0 ≤ x ∧ x < k ∧ x ∉ seen) ∧ (ls.map (·.segs)).flatten.Nodup ∧ ∀ l ∈ ls, 0 ≤ l.len ∧ l.len ≤ 8 * (l.segs.length : Int))
  | [], seen => by simp [goLogs]
  | l :: r, seen => by
    unfold goLogs
    cases hg : goSegs k seen l.segs with
    | none =>
      simp only [Bool.false_eq_true, false_iff]
      rintro ⟨h1, h2, h3⟩
      have : goSegs k seen l.segs = some (l.segs.reverse ++ seen) := (goSegs_some k _ _ _).2 ⟨fun x hx => h1 x (by simp [hx]), by simp [List.nodup_append] at h2; exact h2.1, rfl⟩
      rw [hg] at this; cases this
    | some s =>
      obtain ⟨h1, h2, h3⟩ := (goSegs_some k _ _ _).1 hg
      dsimp only
      split
      · next h =>
        simp only [Bool.false_eq_true, false_iff]
        rintro ⟨-, -, h4⟩
        have := h4 l (by simp)
        omega
      · next h =>
        rw [goLogs_iff k r s]
        subst h3
        constructor
        · rintro ⟨h4, h5, h6⟩
          refine ⟨?_, ?_, ?_⟩
          · intro x hx
            simp only [List.map_cons, List.flatten_cons, List.mem_append] at hx
            rcases hx with hx | hx
            · exact h1 x hx
            · have := h4 x hx
              exact ⟨this.1, this.2.1, fun hm => this.2.2 (by simp [hm])⟩
          · simp only [List.map_cons, List.flatten_cons]
            refine List.nodup_append.2 ⟨h2, h5, ?_⟩
            intro x hx y hy e
            subst e
            exact (h4 x hy).2.2 (by simp [hx])
          · intro x hx
            rcases List.mem_cons.1 hx with rfl | hx
            · omega
            · exact h6 x hx
        · rintro ⟨h4, h5, h6⟩
          simp only [List.map_cons, List.flatten_cons] at h4 h5
          obtain ⟨h7, h8, h9⟩ := List.nodup_append.1 h5
          refine ⟨?_, h8, fun x hx => h6 x (by simp [hx])⟩
          intro x hx
          have := h4 x (by simp [hx])
          refine ⟨this.1, this.2.1, fun hm => ?_⟩
          rcases List.mem_append.1 hm with hm | hm
          · exact h9 x (by simpa using hm) x hx rfl
          · exact this.2.2 hm
theorem may_iff (s : Sp) (k : Int) : s.may k = true ↔ s.Ok (min k 96) := by
  unfold Sp.may Sp.Ok fits
  simp only [Bool.and_eq_true, decide_eq_true_eq, goLogs_iff]
  simp only [List.map_cons, List.map_nil, List.flatten_cons, List.flatten_nil, List.append_nil, List.not_mem_nil, not_false_eq_true, and_true, List.mem_cons, or_false, forall_eq_or_imp, forall_eq]
theorem Sp.Ok.mono {s : Sp} {k m : Int} (h : s.Ok k) (hm : k ≤ m) : s.Ok m := ⟨h.1, h.2.1, fun x hx => ⟨(h.2.2.1 x hx).1, by have := (h.2.2.1 x hx).2; omega⟩, h.2.2.2⟩
/-- The bytes. -/
def Lg.enc (l : Lg) : List Nat := num l.segs.length ++ (l.segs.map Int.toNat ++ (num l.len.toNat ++ four l.last))
def Sp.told (s : Sp) : List Nat := [84] ++ ([82] ++ (num s.number.toNat ++ (num s.boot.toNat ++ (s.j.enc ++ s.c.enc))))
def pad (l : List Nat) : List Nat := l ++ List.replicate (220 - l.length) 0
def summed (l : List Nat) : List Nat := pad l ++ four (nx 0 (pad l))
def packs : Nat → List Nat → List Nat → List Nat
  | 0, _, _ => []
  | k + 1, e, t => e ++ (t.take 56 ++ (e ++ packs k e (t.drop 56)))
def Sp.bytes (s : Sp) : List Nat := packs 4 (four s.number.toNat) (summed s.told)
/-- What bytes tell. -/
def mids : Nat → List Nat → List Nat
  | 0, _ => []
  | k + 1, b => (b.drop 4).take 56 ++ mids k (b.drop 64)
def q4 (l : List Nat) : List Nat := [l.getD 0 0, l.getD 1 0, l.getD 2 0, l.getD 3 0]
def eN (l : List Nat) : Nat × List Nat := ((eNum 9 0 0 l).1, (eNum 9 0 0 l).2.1)
def hCount (l : List Nat) : Nat := min (eN l).1 (eN l).2.length
def hSegs (l : List Nat) : List Int := ((eN l).2.take (hCount l)).map fun n : Nat => (n : Int)
def hRest (l : List Nat) : List Nat := (eN l).2.drop (hCount l)
def hLog (l : List Nat) : Lg × List Nat := (⟨hSegs l, ((eN (hRest l)).1 : Nat), le (q4 (eN (hRest l)).2)⟩, (eN (hRest l)).2.drop 4)
def hSp (t : List Nat) : Sp := ⟨((eN (t.drop 2)).1 : Nat), ((eN (eN (t.drop 2)).2).1 : Nat), (hLog (eN (eN (t.drop 2)).2).2).1, (hLog (hLog (eN (eN (t.drop 2)).2).2).2).1⟩
def heard (b : List Nat) : Sp := hSp (mids 4 b)
def Sp.same (a b : Sp) : Prop := a = b
theorem four_len (c : Nat) : (four c).length = 4 := rfl
theorem le_four {c : Nat} (hc : c < 4294967296) : le (four c) = c := by
  simp only [four, le]; omega
theorem eN_num (n : Nat) (r : List Nat) (h : n ≤ 4611686018427387904) : eN (num n ++ r) = (n, r) := by
  simp [eN, eNum_read n r h]
theorem toNat_back : ∀ (l : List Int), (∀ x ∈ l, 0 ≤ x) → ((l.map Int.toNat).map fun n : Nat => (n : Int)) = l
  | [], _ => rfl
  | x :: r, h => by
    simp only [List.map_cons]
    rw [toNat_back r (fun y hy => h y (by simp [hy]))]
    have := h x (by simp)
    rw [show ((x.toNat : Nat) : Int) = x by omega]
theorem hLog_enc (l : Lg) (r : List Nat) (hs : ∀ x ∈ l.segs, 0 ≤ x) (hl : 0 ≤ l.len) (hn : l.segs.length ≤ 1000) (hl2 : l.len ≤ 100000) (hc : l.last < 4294967296) : hLog (l.enc ++ r) = (l, r) := by
  have e1 : eN (l.enc ++ r) = (l.segs.length, l.segs.map Int.toNat ++ (num l.len.toNat ++ (four l.last ++ r))) := by
    rw [Lg.enc, List.append_assoc, eN_num _ _ (by omega)]
    simp
  have e2 : hCount (l.enc ++ r) = l.segs.length := by
    unfold hCount; rw [e1]; simp
  have e3 : hRest (l.enc ++ r) = num l.len.toNat ++ (four l.last ++ r) := by
    unfold hRest; rw [e2, e1]
    exact List.drop_left' (by simp)
  have e4 : hSegs (l.enc ++ r) = l.segs := by
    unfold hSegs; rw [e2, e1]
    rw [show (l.segs.map Int.toNat ++ (num l.len.toNat ++ (four l.last ++ r))).take l.segs.length = l.segs.map Int.toNat from List.take_left' (by simp)]
    exact toNat_back _ hs
  have e5 : eN (hRest (l.enc ++ r)) = (l.len.toNat, four l.last ++ r) := by rw [e3, eN_num _ _ (by omega)]
  unfold hLog
  rw [e4, e5]
  have e6 : q4 (four l.last ++ r) = four l.last := rfl
  have e7 : (four l.last ++ r).drop 4 = r := rfl
  dsimp only
  rw [e6, e7, le_four hc, show ((l.len.toNat : Nat) : Int) = l.len by omega]
theorem hSp_told (s : Sp) (r : List Nat) (k : Int) (h : s.Ok k) (hj : s.j.segs.length ≤ 1000) (hc : s.c.segs.length ≤ 1000) (h1 : s.j.last < 4294967296) (h2 : s.c.last < 4294967296) : hSp (s.told ++ r) = s := by
  obtain ⟨a1, a2, a3, a4, a5, a6⟩ := h
  have e0 : (s.told ++ r).drop 2 = num s.number.toNat ++ (num s.boot.toNat ++ (s.j.enc ++ (s.c.enc ++ r))) := by
    simp [Sp.told]
  have e1 : eN ((s.told ++ r).drop 2) = (s.number.toNat, num s.boot.toNat ++ (s.j.enc ++ (s.c.enc ++ r))) := by rw [e0, eN_num _ _ (by omega)]
  have e2 : eN (eN ((s.told ++ r).drop 2)).2 = (s.boot.toNat, s.j.enc ++ (s.c.enc ++ r)) := by rw [e1]; exact eN_num _ _ (by omega)
  have e3 := hLog_enc s.j (s.c.enc ++ r) (fun x hx => (a3 x (by simp [hx])).1) a5.1 hj (by omega) h1
  have e4 := hLog_enc s.c r (fun x hx => (a3 x (by simp [hx])).1) a6.1 hc (by omega) h2
  unfold hSp
  rw [e2, e1]
  dsimp only
  rw [e3]
  dsimp only
  rw [e4, show ((s.number.toNat : Nat) : Int) = s.number by omega, show ((s.boot.toNat : Nat) : Int) = s.boot by omega]
theorem packs_len (e : List Nat) (he : e.length = 4) : ∀ (k : Nat) (t : List Nat), t.length = 56 * k → (packs k e t).length = 64 * k
  | 0, _, _ => rfl
  | k + 1, t, h => by
    have := packs_len e he k (t.drop 56) (by simp; omega)
    simp only [packs, List.length_append, List.length_take, he, this]
    omega
theorem mids_packs (e : List Nat) (he : e.length = 4) : ∀ (k : Nat) (t : List Nat), t.length = 56 * k → mids k (packs k e t) = t
  | 0, t, h => by
    have : t = [] := List.length_eq_zero_iff.1 (by omega)
    simp [mids, this]
  | k + 1, t, h => by
    have h56 : (t.take 56).length = 56 := by simp; omega
    have e1 : (packs (k + 1) e t).drop 4 = t.take 56 ++ (e ++ packs k e (t.drop 56)) := List.drop_left' he
    have e2 : (packs (k + 1) e t).drop 64 = packs k e (t.drop 56) := by
      have : packs (k + 1) e t = (e ++ (t.take 56 ++ e)) ++ packs k e (t.drop 56) := by simp [packs]
      rw [this]
      exact List.drop_left' (by simp only [List.length_append, he, h56])
    unfold mids
    rw [e1, e2, mids_packs e he k _ (by simp; omega), List.take_left' h56, List.take_append_drop]
theorem num_len5 {n : Nat} (h : n ≤ 2147483647) : (num n).length ≤ 5 := num_len 4 n (by omega)
theorem num_len2 {n : Nat} (h : n < 16384) : (num n).length ≤ 2 := num_len 1 n (by omega)
theorem nodup_len : ∀ (m : Nat) (l : List Nat), l.Nodup → (∀ x ∈ l, x < m) → l.length ≤ m := by
  intro m
  induction m with
  | zero =>
    intro l _ h
    cases l with
    | nil => simp
    | cons x r => exact absurd (h x (by simp)) (by omega)
  | succ m ih =>
    intro l hn h
    by_cases hm : m ∈ l
    · have h1 := ih (l.erase m) (hn.erase m) (fun x hx => by
        have h2 := h x (List.mem_of_mem_erase hx)
        have h3 : x ≠ m := fun e => by rw [e] at hx; exact (hn.mem_erase_iff.1 hx).1 rfl
        omega)
      rw [List.length_erase_of_mem hm] at h1
      omega
    · have := ih l hn (fun x hx => by
        have h2 := h x hx
        have h3 : x ≠ m := fun e => hm (e ▸ hx)
        omega)
      omega
theorem nodup_toNat : ∀ (l : List Int), (∀ x ∈ l, 0 ≤ x) → l.Nodup → (l.map Int.toNat).Nodup
  | [], _, _ => List.nodup_nil
  | x :: r, h, hn => by
    obtain ⟨h1, h2⟩ := List.nodup_cons.1 hn
    rw [List.map_cons]
    refine List.nodup_cons.2 ⟨?_, nodup_toNat r (fun y hy => h y (by simp [hy])) h2⟩
    intro hm
    obtain ⟨y, hy, e⟩ := List.mem_map.1 hm
    have a := h x (by simp)
    have b := h y (by simp [hy])
    have : y = x := by omega
    exact h1 (this ▸ hy)
theorem Sp.Ok.few {s : Sp} (h : s.Ok 96) : s.j.segs.length + s.c.segs.length ≤ 96 := by
  have h1 := nodup_toNat _ (fun x hx => (h.2.2.1 x hx).1) h.2.2.2.1
  have h2 := nodup_len 96 _ h1 (fun x hx => by
    obtain ⟨y, hy, rfl⟩ := List.mem_map.1 hx
    have := h.2.2.1 y hy
    omega)
  simpa using h2
theorem enc_len (l : Lg) (h : l.segs.length ≤ 96) (hl : l.len ≤ 8 * (l.segs.length : Int)) : l.enc.length ≤ l.segs.length + 8 := by
  have a := num_len2 (n := l.segs.length) (by omega)
  have b := num_len2 (n := l.len.toNat) (by omega)
  simp only [Lg.enc, List.length_append, List.length_map, four_len]
  omega
theorem told_len {s : Sp} (h : s.Ok 96) : s.told.length ≤ 124 := by
  have hf := h.few
  obtain ⟨a1, a2, a3, a4, a5, a6⟩ := h
  have b1 := num_len5 (n := s.number.toNat) (by omega)
  have b2 := num_len5 (n := s.boot.toNat) (by omega)
  have b3 := enc_len s.j (by omega) (by omega)
  have b4 := enc_len s.c (by omega) (by omega)
  simp only [Sp.told, List.length_append, List.length_cons, List.length_nil]
  omega
theorem pad_len {l : List Nat} (h : l.length ≤ 220) : (pad l).length = 220 := by simp [pad]; omega
theorem summed_len {l : List Nat} (h : l.length ≤ 220) : (summed l).length = 224 := by
  simp only [summed, List.length_append, pad_len h, four_len]
theorem bytes_len {s : Sp} (h : s.Ok 96) : s.bytes.length = 256 := packs_len _ rfl 4 _ (summed_len (by have := told_len h; omega))
theorem four_lt' (c : Nat) (hc : c < 4294967296) : ∀ x ∈ four c, x < 256 := four_lt hc
theorem enc_lt (l : Lg) (hs : ∀ x ∈ l.segs, 0 ≤ x ∧ x < 96) (hc : l.last < 4294967296) : ∀ x ∈ l.enc, x < 256 := by
  intro x hx
  simp only [Lg.enc, List.mem_append, List.mem_map] at hx
  rcases hx with hx | ⟨y, hy, rfl⟩ | hx | hx
  · exact num_lt _ x hx
  · have := hs y hy; omega
  · exact num_lt _ x hx
  · exact four_lt hc x hx
theorem told_lt {s : Sp} (h : s.Ok 96) (h1 : s.j.last < 4294967296) (h2 : s.c.last < 4294967296) : ∀ x ∈ s.told, x < 256 := by
  intro x hx
  simp only [Sp.told, List.mem_append, List.mem_singleton] at hx
  rcases hx with rfl | rfl | hx | hx | hx | hx
  · decide
  · decide
  · exact num_lt _ x hx
  · exact num_lt _ x hx
  · exact enc_lt s.j (fun y hy => h.2.2.1 y (by simp [hy])) h1 x hx
  · exact enc_lt s.c (fun y hy => h.2.2.1 y (by simp [hy])) h2 x hx
theorem pad_lt {l : List Nat} (h : ∀ x ∈ l, x < 256) : ∀ x ∈ pad l, x < 256 := by
  intro x hx
  simp only [pad, List.mem_append, List.mem_replicate] at hx
  rcases hx with hx | ⟨_, rfl⟩
  · exact h x hx
  · decide
theorem summed_lt {l : List Nat} (h : ∀ x ∈ l, x < 256) : ∀ x ∈ summed l, x < 256 := by
  intro x hx
  rcases List.mem_append.1 hx with hx | hx
  · exact pad_lt h x hx
  · exact four_lt (nx_lt _ _) x hx
theorem packs_lt {e : List Nat} (he : ∀ x ∈ e, x < 256) : ∀ (k : Nat) (t : List Nat), (∀ x ∈ t, x < 256) → ∀ x ∈ packs k e t, x < 256
  | 0, _, _ => fun x hx => by simp [packs] at hx
  | k + 1, t, ht => by
    intro x hx
    simp only [packs, List.mem_append] at hx
    rcases hx with hx | hx | hx | hx
    · exact he x hx
    · exact ht x (List.mem_of_mem_take hx)
    · exact he x hx
    · exact packs_lt he k _ (fun y hy => ht y (List.mem_of_mem_drop hy)) x hx
theorem bytes_lt {s : Sp} (h : s.Ok 96) (h1 : s.j.last < 4294967296) (h2 : s.c.last < 4294967296) : ∀ x ∈ s.bytes, x < 256 :=
  packs_lt (four_lt (by have := h.1; omega)) 4 _ (summed_lt (told_lt h h1 h2))
theorem heard_bytes {s : Sp} (h : s.Ok 96) (h1 : s.j.last < 4294967296) (h2 : s.c.last < 4294967296) : heard s.bytes = s := by
  have hl := told_len h
  have hf := h.few
  unfold heard Sp.bytes
  rw [mids_packs _ rfl 4 _ (summed_len (by omega)), summed, pad, List.append_assoc, hSp_told s _ 96 h (by omega) (by omega) h1 h2]
/-- What Parse answers. -/
def parse (b : List Nat) (k : Int) : Option Sp := if b.length = 256 ∧ (heard b).may k = true ∧ (heard b).bytes = b then some (heard b) else none
theorem parse_bytes {s : Sp} (h : s.Ok 96) (h1 : s.j.last < 4294967296) (h2 : s.c.last < 4294967296) (k : Int) : parse s.bytes k = if s.may k then some s else none := by
  unfold parse
  rw [heard_bytes h h1 h2, bytes_len h]
  by_cases hm : s.may k = true
  · simp [hm]
  · simp [hm]
theorem may_96 {s : Sp} {k : Int} (h : s.may k = true) : s.Ok 96 := ((may_iff s k).1 h).mono (by omega)
theorem may_of_96 {s : Sp} : s.may 96 = decide (s.Ok 96) := by
  cases h : s.may 96 with
  | true => exact (decide_eq_true (may_96 h)).symm
  | false =>
    symm
    rw [decide_eq_false_iff_not]
    intro h2
    have := (may_iff s 96).2 (by simpa using h2)
    rw [h] at this; cases this
end Go.Proofs.Ytmfmhlhpleahpaa
