/- A slot that tears, as plain mathematics: what is left of it is what lay there, or the new one whole, or nothing. No condition. -/
import Derived.Test.YtmfmhlhpleahpaaSupO
namespace Go.Proofs.Ytmfmhlhpleahpaa
open Go.RowKit Pen
open Crc (four nx)
theorem packs_piece (e : List Nat) (he : e.length = 4) : ∀ (k i : Nat) (t : List Nat), t.length = 56 * k → i < k → ((packs k e t).drop (64 * i)).take 64 = e ++ (((t.drop (56 * i)).take 56) ++ e)
  | 0, _, _, _, hi => by omega
  | k + 1, 0, t, ht, _ => by
    have h56 : (t.take 56).length = 56 := by simp; omega
    have : packs (k + 1) e t = (e ++ (t.take 56 ++ e)) ++ packs k e (t.drop 56) := by simp [packs]
    rw [this]
    simp only [Nat.mul_zero, List.drop_zero]
    exact List.take_left' (by simp only [List.length_append, he, h56])
  | k + 1, i + 1, t, ht, hi => by
    have h56 : (t.take 56).length = 56 := by simp; omega
    have e2 : (packs (k + 1) e t).drop 64 = packs k e (t.drop 56) := by
      have : packs (k + 1) e t = (e ++ (t.take 56 ++ e)) ++ packs k e (t.drop 56) := by simp [packs]
      rw [this]
      exact List.drop_left' (by simp only [List.length_append, he, h56])
    have ih := packs_piece e he k i (t.drop 56) (by simp; omega) (by omega)
    rw [show 64 * (i + 1) = 64 + 64 * i by omega, ← List.drop_drop, e2, ih, List.drop_drop, show 56 + 56 * i = 56 * (i + 1) by omega]
/-- A sector of a slot: its Number at both ends. -/
theorem piece_ends {s : Sp} (h : s.Ok 96) (i : Nat) (hi : i < 4) : ∃ m : List Nat, m.length = 56 ∧ piece s.bytes i = four s.number.toNat ++ (m ++ four s.number.toNat) := by
  have hl := summed_len (l := s.told) (by have := told_len h; omega)
  refine ⟨((summed s.told).drop (56 * i)).take 56, by simp; omega, ?_⟩
  exact packs_piece (four s.number.toNat) rfl 4 i (summed s.told) hl hi
theorem mix_get {O P : List Nat} {n : Nat} (hn : n ≤ 64) (hP : P.length = 64) (j : Nat) : (mix O P n).getD j 0 = if j < n then P.getD j 0 else O.getD j 0 := by
  unfold mix
  rw [List.getD_eq_getElem?_getD, List.getElem?_append]
  have hl : (P.take n).length = n := by simp; omega
  rw [hl]
  by_cases hj : j < n
  · rw [if_pos hj, if_pos hj, List.getElem?_take, if_pos hj]; rfl
  · rw [if_neg hj, if_neg hj, List.getElem?_drop, show n + (j - n) = j by omega]; rfl
theorem ends_get (N : Nat) (m : List Nat) (hm : m.length = 56) : (four N ++ (m ++ four N)).getD 0 0 = N % 256 ∧ (four N ++ (m ++ four N)).getD 60 0 = N % 256 := by
  constructor
  · rfl
  · rw [List.getD_eq_getElem?_getD, List.getElem?_append_right (by simp [four_len]), List.getElem?_append_right (by simp [four_len, hm]), four_len, hm]
    rfl
theorem four_six {N : Nat} (hN : N < 4294967296) (h : four N = four 6) : N = 6 := by
  have := le_four hN
  rw [h, le_four (by decide)] at this
  exact this.symm
theorem mix_torn {O m m' : List Nat} {n N : Nat} (h0 : O.getD 0 0 ≠ 6) (h60 : O.getD 60 0 ≠ 6) (hn : n ≤ 64) (hm : m.length = 56) (hm' : m'.length = 56) (hN : N < 4294967296)
    (h : mix O (four 6 ++ (m ++ four 6)) n = four N ++ (m' ++ four N)) : (N % 256 ≠ 6 ∧ mix O (four 6 ++ (m ++ four 6)) n = O) ∨ (N = 6 ∧ mix O (four 6 ++ (m ++ four 6)) n = four 6 ++ (m ++ four 6)) := by
  have hP : (four 6 ++ (m ++ four 6)).length = 64 := by simp [four_len, hm]
  have g0 := mix_get (O := O) hn hP 0
  have g60 := mix_get (O := O) hn hP 60
  rw [h] at g0 g60
  rw [(ends_get N m' hm').1, (ends_get 6 m hm).1] at g0
  rw [(ends_get N m' hm').2, (ends_get 6 m hm).2] at g60
  by_cases hz : n = 0
  · subst hz
    left
    refine ⟨?_, by simp [mix]⟩
    rw [g0, if_neg (by omega)]
    exact h0
  · right
    rw [if_pos (by omega)] at g0
    have hn60 : 60 < n := by
      by_cases hc : 60 < n
      · exact hc
      · rw [if_neg hc, g0] at g60
        exact absurd g60.symm h60
    have hfour : four N = four 6 := by
      have e : (mix O (four 6 ++ (m ++ four 6)) n).take 4 = four 6 := by
        unfold mix
        rw [List.take_append_of_le_length (by simp [four_len, hm]; omega), List.take_take, Nat.min_eq_left (by omega), List.take_left' (four_len 6)]
      rw [h, List.take_left' (four_len N)] at e
      exact e
    have hN6 := four_six hN hfour
    subst hN6
    refine ⟨rfl, ?_⟩
    have hd : ∀ l : List Nat, l.length = 56 → (four 6 ++ (l ++ four 6)).drop 60 = four 6 := fun l hl => by
      rw [← List.append_assoc]
      exact List.drop_left' (by simp [four_len, hl])
    have ht : (mix O (four 6 ++ (m ++ four 6)) n).take 60 = (four 6 ++ (m ++ four 6)).take 60 := by
      unfold mix
      rw [List.take_append_of_le_length (by simp [four_len, hm]; omega), List.take_take, Nat.min_eq_left (by omega)]
    have e1 : (mix O (four 6 ++ (m ++ four 6)) n).drop 60 = (four 6 ++ (m ++ four 6)).drop 60 := by rw [h, hd m' hm', hd m hm]
    rw [← List.take_append_drop 60 (mix O (four 6 ++ (m ++ four 6)) n), ht, e1, List.take_append_drop]
/-- What is left of a slot that was written while power went. -/
theorem torn {b s : Sp} (hb : b.Ok 96) (hb6 : b.number = 6) (hs : s.Ok 96) (O : Nat → List Nat) (n : Nat → Nat) (hO : ∀ i, i < 4 → (O i).getD 0 0 ≠ 6 ∧ (O i).getD 60 0 ≠ 6) (hn : ∀ i, i < 4 → n i ≤ 64)
    (hX : ∀ i, i < 4 → piece s.bytes i = mix (O i) (piece b.bytes i) (n i)) : s.bytes = b.bytes ∨ ∀ i, i < 4 → piece s.bytes i = O i := by
  have hN : s.number.toNat < 4294967296 := by have := hs.1; omega
  have key : ∀ i, i < 4 → (s.number.toNat % 256 ≠ 6 ∧ piece s.bytes i = O i) ∨ (s.number.toNat = 6 ∧ piece s.bytes i = piece b.bytes i) := fun i hi => by
    obtain ⟨m, hm, e⟩ := piece_ends hb i hi
    obtain ⟨m', hm', e'⟩ := piece_ends hs i hi
    rw [hb6] at e
    have h := hX i hi
    have e6 : ((6 : Int).toNat) = 6 := rfl
    rw [e6] at e
    rw [e] at h
    rcases mix_torn (hO i hi).1 (hO i hi).2 (hn i hi) hm hm' hN (h.symm.trans e') with ⟨h1, h2⟩ | ⟨h1, h2⟩
    · exact .inl ⟨h1, h.trans h2⟩
    · exact .inr ⟨h1, by rw [h, h2, e]⟩
  rcases key 0 (by decide) with ⟨h0, _⟩ | ⟨h0, _⟩
  · right
    intro i hi
    rcases key i hi with ⟨_, h⟩ | ⟨h, _⟩
    · exact h
    · rw [h] at h0; exact absurd rfl h0
  · left
    have all : ∀ i, i < 4 → piece s.bytes i = piece b.bytes i := fun i hi => by
      rcases key i hi with ⟨h, _⟩ | ⟨_, h⟩
      · rw [h0] at h; exact absurd rfl h
      · exact h
    rw [← pieces s.bytes (bytes_len hs), ← pieces b.bytes (bytes_len hb), all 0 (by decide), all 1 (by decide), all 2 (by decide), all 3 (by decide)]
theorem parse_some {X : List Nat} {k : Int} {s : Sp} (h : parse X k = some s) : s.Ok 96 ∧ s.bytes = X ∧ s = heard X := by
  unfold parse at h
  split at h
  · next hc =>
    injection h with h
    subst h
    exact ⟨may_96 hc.2.1, hc.2.2, rfl⟩
  · cases h

/-! ### Two slots, one of them written while power went -/
theorem lay_sec_same (d : Dk) (i : Nat) (b : List Nat) (hi : i < d.secs.length) : (d.lay i b).secs.getD i blank = { d.secs.getD i blank with cached := b, waits := true } := by
  simp [Dk.lay, hi]
theorem lay_sec_other (d : Dk) (i j : Nat) (b : List Nat) (h : i ≠ j) : (d.lay i b).secs.getD j blank = d.secs.getD j blank := by
  simp only [Dk.lay, List.getD_eq_getElem?_getD, List.getElem?_set, if_neg h]
theorem layFrom_sec_in (s : Nat) (B : List Nat) (d : Dk) (hn : s * 4 + 4 ≤ d.secs.length) (i : Nat) (hi : i < 4) : (layFrom s B 4 d).secs.getD (s * 4 + i) blank = { d.secs.getD (s * 4 + i) blank with cached := piece B i, waits := true } := by
  rw [layFrom_four]
  rcases (by omega : i = 0 ∨ i = 1 ∨ i = 2 ∨ i = 3) with rfl | rfl | rfl | rfl
  · rw [lay_sec_other _ _ _ _ (by omega), lay_sec_other _ _ _ _ (by omega), lay_sec_other _ _ _ _ (by omega), lay_sec_same _ _ _ (by omega)]
  · rw [lay_sec_other _ _ _ _ (by omega), lay_sec_other _ _ _ _ (by omega), lay_sec_same _ _ _ (by simp only [lay_len]; omega), lay_sec_other _ _ _ _ (by omega)]
  · rw [lay_sec_other _ _ _ _ (by omega), lay_sec_same _ _ _ (by simp only [lay_len]; omega), lay_sec_other _ _ _ _ (by omega), lay_sec_other _ _ _ _ (by omega)]
  · rw [lay_sec_same _ _ _ (by simp only [lay_len]; omega), lay_sec_other _ _ _ _ (by omega), lay_sec_other _ _ _ _ (by omega), lay_sec_other _ _ _ _ (by omega)]
theorem layFrom_sec_out (s : Nat) (B : List Nat) (d : Dk) (j : Nat) (hj : j < s * 4 ∨ s * 4 + 4 ≤ j) : (layFrom s B 4 d).secs.getD j blank = d.secs.getD j blank := by
  rw [layFrom_four, lay_sec_other _ _ _ _ (by omega), lay_sec_other _ _ _ _ (by omega), lay_sec_other _ _ _ _ (by omega), lay_sec_other _ _ _ _ (by omega)]
theorem crash_read (d : Dk) (c : List Nat) (i : Nat) (hi : i < d.secs.length) : (d.crash c).read i = if (d.secs.getD i blank).waits then mix (d.secs.getD i blank).safe (d.secs.getD i blank).cached (stay c (count d.secs i)) else (d.secs.getD i blank).safe := by
  have e : (d.crash c).secs.getD i blank = crashAt c d.secs i := by simp [Dk.crash, crashL, hi]
  unfold Dk.read
  rw [e]
  unfold crashAt crashed
  split <;> rfl
def Dk.flushed (d : Dk) : Dk := { d with ops := d.ops + 1, secs := d.secs.map clean }
theorem flushed_sec (d : Dk) (i : Nat) : d.flushed.secs.getD i blank = if i < d.secs.length then clean (d.secs.getD i blank) else blank := by
  by_cases h : i < d.secs.length
  · simp [Dk.flushed, h]
  · simp [Dk.flushed, h]
theorem fresh_sec (n i : Nat) : (fresh n).secs.getD i blank = blank := by
  simp only [fresh, List.getD_eq_getElem?_getD, List.getElem?_replicate]
  split <;> rfl
/-- The disk of the statement that a slot tears, ahead of the crash. -/
def tornDisk (A B : List Nat) : Dk := layFrom 1 B 4 (layFrom 0 A 4 (fresh 8)).flushed
theorem tornDisk_len (A B : List Nat) : (tornDisk A B).secs.length = 8 := by
  rw [tornDisk, layFrom_len]
  show ((layFrom 0 A 4 (fresh 8)).secs.map clean).length = 8
  rw [List.length_map, layFrom_len]
  exact (fresh_rest 8).1
theorem torn_first (A B c : List Nat) (hA : A.length = 256) : ((tornDisk A B).crash c).slot 0 = A := by
  have key : ∀ i, i < 4 → ((tornDisk A B).crash c).read (0 * 4 + i) = piece A i := fun i hi => by
    have hl : 0 * 4 + i < (layFrom 0 A 4 (fresh 8)).secs.length := by rw [layFrom_len, (fresh_rest 8).1]; omega
    have e : (tornDisk A B).secs.getD (0 * 4 + i) blank = clean (({ (fresh 8).secs.getD (0 * 4 + i) blank with cached := piece A i, waits := true } : Sec)) := by
      rw [tornDisk, layFrom_sec_out 1 B _ _ (by omega), flushed_sec, if_pos hl, layFrom_sec_in 0 A _ (by rw [(fresh_rest 8).1]; decide) i hi]
    rw [crash_read _ _ _ (by rw [tornDisk_len]; omega), e]
    rfl
  rw [slot_four, key 0 (by decide), key 1 (by decide), key 2 (by decide), key 3 (by decide), pieces A hA]
theorem torn_second (A B c : List Nat) : ∃ n : Nat → Nat, (∀ i, n i = stay c (count (tornDisk A B).secs (1 * 4 + i))) ∧ ∀ i, i < 4 → ((tornDisk A B).crash c).read (1 * 4 + i) = mix zeros (piece B i) (n i) := by
  refine ⟨_, fun i => rfl, fun i hi => ?_⟩
  have hl : 1 * 4 + i < (layFrom 0 A 4 (fresh 8)).secs.length := by rw [layFrom_len, (fresh_rest 8).1]; omega
  have e : (tornDisk A B).secs.getD (1 * 4 + i) blank = { clean blank with cached := piece B i, waits := true } := by
    rw [tornDisk, layFrom_sec_in 1 B _ (by show _ ≤ ((layFrom 0 A 4 (fresh 8)).secs.map clean).length; rw [List.length_map, layFrom_len, (fresh_rest 8).1]; decide) i hi, flushed_sec, if_pos hl, layFrom_sec_out 0 A _ _ (by omega), fresh_sec]
  rw [crash_read _ _ _ (by rw [tornDisk_len]; omega), e]
  rfl
theorem four_pieces {r0 r1 r2 r3 : List Nat} (h0 : r0.length = 64) (h1 : r1.length = 64) (h2 : r2.length = 64) (h3 : r3.length = 64) :
    piece (r0 ++ (r1 ++ (r2 ++ (r3 ++ [])))) 0 = r0 ∧ piece (r0 ++ (r1 ++ (r2 ++ (r3 ++ [])))) 1 = r1 ∧ piece (r0 ++ (r1 ++ (r2 ++ (r3 ++ [])))) 2 = r2 ∧ piece (r0 ++ (r1 ++ (r2 ++ (r3 ++ [])))) 3 = r3 := by
  have d1 : ∀ (x y : List Nat), x.length = 64 → (x ++ y).drop 64 = y := fun x y h => List.drop_left' h
  have e : ∀ (l : List Nat) (k : Nat), piece l (k + 1) = piece (l.drop 64) k := fun l k => by
    unfold piece
    rw [List.drop_drop, show 64 + 64 * k = 64 * (k + 1) by omega]
  have z : ∀ (x y : List Nat), x.length = 64 → piece (x ++ y) 0 = x := fun x y h => List.take_left' h
  refine ⟨z _ _ h0, ?_, ?_, ?_⟩
  · rw [e _ 0, d1 _ _ h0, z _ _ h1]
  · rw [e _ 1, d1 _ _ h0, e _ 0, d1 _ _ h1, z _ _ h2]
  · rw [e _ 2, d1 _ _ h0, e _ 1, d1 _ _ h1, e _ 0, d1 _ _ h2, z _ _ h3]
theorem piece_slot (d : Dk) (s : Nat) (h : ∀ i, i < 4 → (d.read (s * 4 + i)).length = 64) (i : Nat) (hi : i < 4) : piece (d.slot s) i = d.read (s * 4 + i) := by
  rw [slot_four]
  have f := four_pieces (h 0 (by decide)) (h 1 (by decide)) (h 2 (by decide)) (h 3 (by decide))
  rcases (by omega : i = 0 ∨ i = 1 ∨ i = 2 ∨ i = 3) with rfl | rfl | rfl | rfl
  · exact f.1
  · exact f.2.1
  · exact f.2.2.1
  · exact f.2.2.2
theorem mix_len {O P : List Nat} {n : Nat} (hn : n ≤ 64) (hO : O.length = 64) (hP : P.length = 64) : (mix O P n).length = 64 := by simp [mix]; omega
/-- Of two slots, the second written while power went: the first, or the new one. -/
theorem torn_best {a b : Sp} (ha : a.Ok 96) (hb : b.Ok 96) (ha5 : a.number = 5) (hb6 : b.number = 6) (h1 : a.j.last < 4294967296) (h2 : a.c.last < 4294967296) (h3 : b.j.last < 4294967296) (h4 : b.c.last < 4294967296) (c : List Nat) (hc : ∀ x ∈ c, x < 256) :
    best (parse (((tornDisk a.bytes b.bytes).crash c).slot 0) 96) (parse (((tornDisk a.bytes b.bytes).crash c).slot 1) 96) = some a ∨ best (parse (((tornDisk a.bytes b.bytes).crash c).slot 0) 96) (parse (((tornDisk a.bytes b.bytes).crash c).slot 1) 96) = some b := by
  rw [torn_first _ _ _ (bytes_len ha), parse_bytes ha h1 h2, may_of_96, decide_eq_true ha, if_pos rfl]
  obtain ⟨n, hn, hX⟩ := torn_second a.bytes b.bytes c
  have hn64 : ∀ i, i < 4 → n i ≤ 64 := fun i _ => by rw [hn]; exact stay_le hc _
  have hz : zeros.length = 64 := by simp [zeros]
  have hP := piece_slot ((tornDisk a.bytes b.bytes).crash c) 1 (fun i hi => by rw [hX i hi]; exact mix_len (hn64 i hi) hz (piece_len (bytes_len hb) i hi))
  cases hp : parse (((tornDisk a.bytes b.bytes).crash c).slot 1) 96 with
  | none => exact .inl rfl
  | some s =>
    obtain ⟨hs, hsb, hsh⟩ := parse_some hp
    rcases torn hb hb6 hs (fun _ => zeros) n (fun i _ => ⟨by simp [zeros], by simp [zeros]⟩) hn64 (fun i hi => by rw [hsb, hP i hi, hX i hi]) with h | h
    · right
      have e : s = b := by
        rw [hsh, ← hsb, h, heard_bytes hb h3 h4]
      rw [e]
      show (if a.number < b.number then some b else some a) = some b
      rw [if_pos (by omega)]
    · left
      obtain ⟨m, _, e⟩ := piece_ends hs 0 (by decide)
      rw [h 0 (by decide)] at e
      have hz4 : four s.number.toNat = [0, 0, 0, 0] := by
        have e4 := congrArg (List.take 4) e
        rw [List.take_left' (four_len _)] at e4
        rw [← e4]
        rfl
      have h0 := le_four (c := s.number.toNat) (by have := hs.1; omega)
      rw [hz4] at h0
      have h00 : s.number.toNat = 0 := by rw [← h0]; rfl
      show (if a.number < s.number then some s else some a) = some a
      rw [if_neg (by have := hs.1; omega)]
end Go.Proofs.Ytmfmhlhpleahpaa
