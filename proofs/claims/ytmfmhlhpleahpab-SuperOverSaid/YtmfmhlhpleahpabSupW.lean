/- A slot that is written over whatever lay there, as plain mathematics: what is left is the other one, or the new one. No condition. -/
import Derived.Test.YtmfmhlhpleahpabSupQ
namespace Go.Proofs.Ytmfmhlhpleahpab
open Go.RowKit Pen
open Crc (four nx)
/-- The disk of the statement that a slot is written over old bytes, ahead of the crash. -/
def overDisk (O A B : List Nat) : Dk := layFrom 1 B 4 (layFrom 0 A 4 (layFrom 1 O 4 (fresh 8))).flushed
theorem over_in (O A : List Nat) : (layFrom 0 A 4 (layFrom 1 O 4 (fresh 8))).secs.length = 8 := by
  rw [layFrom_len, layFrom_len]; exact (fresh_rest 8).1
theorem overDisk_len (O A B : List Nat) : (overDisk O A B).secs.length = 8 := by
  rw [overDisk, layFrom_len]
  show ((layFrom 0 A 4 (layFrom 1 O 4 (fresh 8))).secs.map clean).length = 8
  rw [List.length_map, over_in]
theorem over_first (O A B c : List Nat) (hA : A.length = 256) : ((overDisk O A B).crash c).slot 0 = A := by
  have key : ∀ i, i < 4 → ((overDisk O A B).crash c).read (0 * 4 + i) = piece A i := fun i hi => by
    have hl : 0 * 4 + i < (layFrom 0 A 4 (layFrom 1 O 4 (fresh 8))).secs.length := by rw [over_in]; omega
    have e : (overDisk O A B).secs.getD (0 * 4 + i) blank = clean (({ (layFrom 1 O 4 (fresh 8)).secs.getD (0 * 4 + i) blank with cached := piece A i, waits := true } : Sec)) := by
      rw [overDisk, layFrom_sec_out 1 B _ _ (by omega), flushed_sec, if_pos hl, layFrom_sec_in 0 A _ (by rw [layFrom_len, (fresh_rest 8).1]; decide) i hi]
    rw [crash_read _ _ _ (by rw [overDisk_len]; omega), e]
    rfl
  rw [slot_four, key 0 (by decide), key 1 (by decide), key 2 (by decide), key 3 (by decide), pieces A hA]
theorem over_second (O A B c : List Nat) : ∃ n : Nat → Nat, (∀ i, n i = stay c (count (overDisk O A B).secs (1 * 4 + i))) ∧ ∀ i, i < 4 → ((overDisk O A B).crash c).read (1 * 4 + i) = mix (piece O i) (piece B i) (n i) := by
  refine ⟨_, fun i => rfl, fun i hi => ?_⟩
  have hl : 1 * 4 + i < (layFrom 0 A 4 (layFrom 1 O 4 (fresh 8))).secs.length := by rw [over_in]; omega
  have e : (overDisk O A B).secs.getD (1 * 4 + i) blank = { clean ({ blank with cached := piece O i, waits := true } : Sec) with cached := piece B i, waits := true } := by
    rw [overDisk, layFrom_sec_in 1 B _ (by show _ ≤ ((layFrom 0 A 4 (layFrom 1 O 4 (fresh 8))).secs.map clean).length; rw [List.length_map, over_in]; decide) i hi, flushed_sec, if_pos hl, layFrom_sec_out 0 A _ _ (by omega), layFrom_sec_in 1 O _ (by rw [(fresh_rest 8).1]; decide) i hi, fresh_sec]
  rw [crash_read _ _ _ (by rw [overDisk_len]; omega), e]
  rfl
/-- Of two slots, the second written over whatever lay there while power went: the first, or the new one. -/
theorem over_best {a b : Sp} (ha : a.Ok 96) (hb : b.Ok 96) (ha5 : a.number = 5) (hb6 : b.number = 6) (h1 : a.j.last < 4294967296) (h2 : a.c.last < 4294967296) (h3 : b.j.last < 4294967296) (h4 : b.c.last < 4294967296) (c : List Nat) (hc : ∀ x ∈ c, x < 256)
    (O : List Nat) (hO : O.length = 256) (hO6 : ∀ i, i < 4 → (piece O i).getD 0 0 ≠ 6 ∧ (piece O i).getD 60 0 ≠ 6) (hp0 : parse O 96 = none) :
    best (parse (((overDisk O a.bytes b.bytes).crash c).slot 0) 96) (parse (((overDisk O a.bytes b.bytes).crash c).slot 1) 96) = some a ∨ best (parse (((overDisk O a.bytes b.bytes).crash c).slot 0) 96) (parse (((overDisk O a.bytes b.bytes).crash c).slot 1) 96) = some b := by
  rw [over_first _ _ _ _ (bytes_len ha), parse_bytes ha h1 h2, may_of_96, decide_eq_true ha, if_pos rfl]
  obtain ⟨n, hn, hX⟩ := over_second O a.bytes b.bytes c
  have hn64 : ∀ i, i < 4 → n i ≤ 64 := fun i _ => by rw [hn]; exact stay_le hc _
  have hP := piece_slot ((overDisk O a.bytes b.bytes).crash c) 1 (fun i hi => by rw [hX i hi]; exact mix_len (hn64 i hi) (piece_len hO i hi) (piece_len (bytes_len hb) i hi))
  cases hp : parse (((overDisk O a.bytes b.bytes).crash c).slot 1) 96 with
  | none => exact .inl rfl
  | some s =>
    obtain ⟨hs, hsb, hsh⟩ := parse_some hp
    rcases torn hb hb6 hs (fun i => piece O i) n hO6 hn64 (fun i hi => by rw [hsb, hP i hi, hX i hi]) with h | h
    · right
      have e : s = b := by
        rw [hsh, ← hsb, h, heard_bytes hb h3 h4]
      rw [e]
      show (if a.number < b.number then some b else some a) = some b
      rw [if_pos (by omega)]
    · exfalso
      have hsO : s.bytes = O := by
        rw [← pieces s.bytes (bytes_len hs), ← pieces O hO, h 0 (by decide), h 1 (by decide), h 2 (by decide), h 3 (by decide)]
      rw [hsb] at hsO
      rw [hsO, hp0] at hp
      cases hp
end Go.Proofs.Ytmfmhlhpleahpab
