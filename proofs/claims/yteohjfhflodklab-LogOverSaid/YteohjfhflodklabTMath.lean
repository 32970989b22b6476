/- A record that is torn is there whole or not at all: plain mathematics. Condition: boots from 1 to 255, noughts where it is laid. -/
import Derived.Test.YteohjfhflodklabLogU
namespace Go.Proofs.Yteohjfhflodklab
open Go.RowKit Pen
open Crc (four nx run)
theorem four_small {b : Nat} (h : b < 256) : four b = [b, 0, 0, 0] := by
  have e1 : b % 256 = b := Nat.mod_eq_of_lt h
  have e2 : b / 256 = 0 := Nat.div_eq_of_lt h
  simp only [four]
  have e3 : b / 65536 = 0 := by omega
  have e4 : b / 16777216 = 0 := by omega
  simp [e1, e2, e3, e4]
/-- A sector that tears over noughts: it is whole, or its boot is none. -/
theorem mix_sound {b n t : Nat} {p : List Nat} (hb : b < 256) (hp : p.length ≤ 54) (i : Nat) : mix zeros (sect b n p) t = sect b n p ∨ sb (mix zeros (sect b n p) t) i ≤ 0 := by
  have hl := sect_len b n p hp
  by_cases ht : 61 ≤ t
  · left
    have hs : sect b n p = (four b ++ (two n ++ (pad p ++ [b]))) ++ [0, 0, 0] := by
      rw [sect, four_small hb]
      simp
    have hl2 : (four b ++ (two n ++ (pad p ++ [b]))).length = 61 := by simp [four_len, two, pad_len p hp]
    generalize four b ++ (two n ++ (pad p ++ [b])) = A at *
    obtain ⟨u, rfl⟩ : ∃ u, t = 61 + u := ⟨t - 61, by omega⟩
    have hz : zeros.drop (61 + u) = List.replicate (3 - u) 0 := by
      unfold zeros
      rw [List.drop_replicate]
      congr 1
      omega
    rw [mix, hz, hs, ← hl2, List.take_length_add_append, List.append_assoc]
    congr 1
    match u with
    | 0 => rfl
    | 1 => rfl
    | 2 => rfl
    | u + 3 => simp
  · right
    have hd : (mix zeros (sect b n p) t).drop 60 = [0, 0, 0, 0] := by
      rw [mix, List.drop_append, List.drop_drop, List.length_take, hl]
      rw [List.drop_eq_nil_of_le (by rw [List.length_take, hl]; omega), List.nil_append]
      have : t + (60 - min t 64) = 60 := by omega
      rw [this]
      decide
    unfold sb
    rw [hd]
    split
    · next h => rw [h.1]; decide
    · omega
theorem zeros_sound (i : Nat) : sb zeros i ≤ 0 := by
  unfold sb
  split
  · next h => rw [h.1]; decide
  · omega
/-- What is found behind: nothing, or the record. -/
theorem torn_more {D : Nat → List Nat} {k last lb n m bt : Nat} {r : List Nat} {fits : Nat → Nat → Bool} (h1 : 1 ≤ r.length) (h2 : r.length ≤ 16384) (hr : ∀ y ∈ r, y < 256) (hb : bt < 256) (hfit : ∀ lb b, fits lb b = true → 0 < b) (hm : cnt (r.length + 16) ≤ m)
    (hD : ∀ i, i < cnt (r.length + 16) → ∃ t, D (n + i) = mix zeros (sect bt (n + i) (prt (mk last bt r) i)) t) (hz : ∀ i, cnt (r.length + 16) ≤ i → i < m → D (n + i) = zeros) :
    scan fits D k last lb n m = [] ∨ scan fits D k last lb n m = [(bt, r)] := by
  have hcp := cnt_pos r.length
  cases k with
  | zero => exact .inl rfl
  | succ k =>
    cases hrd : rd last (txt D n m) with
    | none => exact .inl (scan_none _ hrd)
    | some rb =>
      obtain ⟨r', b'⟩ := rb
      by_cases hw : fits lb b' = true ∧ Whole D n m r' b'
      · obtain ⟨hf, hwh⟩ := hw
        have hb0 := hfit _ _ hf
        have hcp' := cnt_pos r'.length
        obtain ⟨k1, k2, k3, m', hx⟩ := rd_iff.1 hrd
        have hlen64 : ∀ i, i < m → (D (n + i)).length = 64 := fun i hi => by
          by_cases hc : i < cnt (r.length + 16)
          · obtain ⟨t, ht⟩ := hD i hc
            rw [ht, mix, List.length_append, List.length_take, List.length_drop, sect_len _ _ _ (prt_len _ _)]
            simp [zeros]
            omega
          · rw [hz i (by omega) hi]; simp [zeros]
        have hsnd : ∀ i, i < cnt (r'.length + 16) → i < cnt (r.length + 16) → D (n + i) = sect bt (n + i) (prt (mk last bt r) i) := fun i h3 h4 => by
          obtain ⟨t, ht⟩ := hD i h4
          rw [ht]
          rcases mix_sound (b := bt) (n := n + i) (t := t) (p := prt (mk last bt r) i) hb (prt_len _ _) (n + i) with e | e
          · exact e
          · have := hwh.1 i h3
            rw [ht] at this
            omega
        -- the first sector tells how long it is
        have h0 := hsnd 0 hcp' hcp
        have htx : (txt D n m).take 4 = four r.length := by
          obtain ⟨u, rfl⟩ : ∃ u, m = 1 + u := ⟨m - 1, by omega⟩
          have e1 : txt D n 1 = pad (prt (mk last bt r) 0) := by
            have : txt D n 1 = mid (D (n + 0)) := by simp [txt]
            rw [this, h0, sect_mid _ _ _ (prt_len _ _)]
          have e2 : (pad (prt (mk last bt r) 0)).length = 54 := pad_len _ (prt_len _ _)
          rw [txt_add, e1, List.take_append_of_le_length (by omega), pad, prt, Nat.mul_zero, List.drop_zero, List.take_append_of_le_length (by rw [List.length_take, mk_len]; omega), List.take_take, Nat.min_eq_left (by decide)]
          have := (mk_parts last bt r []).1
          rwa [List.append_nil] at this
        have hlr : r'.length = r.length := by
          have e1 := (mk_parts last b' r' m').1
          rw [← hx, htx] at e1
          exact (four_inj (by omega) (by omega) e1).symm
        have hat : At D n (secsOf n bt (mk last bt r)) := fun i hi => by
          rw [secsOf_len, mk_len] at hi
          rw [hsnd i (by rw [hlr]; exact hi) hi, secsOf_get _ _ _ _ (by rw [mk_len]; exact hi)]
        obtain ⟨hrd2, _⟩ := whole_of (m := m) (show Ok (bt, r) from ⟨by simp only; omega, h1, h2, hr⟩) hat hm
        rw [hrd] at hrd2
        simp only [Option.some.injEq, Prod.mk.injEq] at hrd2
        obtain ⟨rfl, rfl⟩ := hrd2
        rw [scan_yes k hrd hf hwh, scan_blank (fun h => by
          have := hz (cnt (r'.length + 16)) (Nat.le_refl _) (by omega)
          exact this)]
        exact .inr rfl
      · exact .inl (scan_no _ hrd hw)
/-! ### A crash -/
theorem crash_read {d : Dk} (c : List Nat) (i : Nat) (hi : i < d.secs.length) : (d.secs.getD i blank).waits = true ∧ (∃ t, (d.crash c).read i = mix (d.secs.getD i blank).safe (d.secs.getD i blank).cached t) ∨ (d.secs.getD i blank).waits = false ∧ (d.crash c).read i = (d.secs.getD i blank).safe := by
  have e : (d.crash c).secs.getD i blank = crashAt c d.secs i := by simp [Dk.crash, crashL, hi]
  unfold Dk.read
  rw [e, crashAt, crashed]
  cases hw : (d.secs.getD i blank).waits with
  | true => exact .inl ⟨rfl, _, rfl⟩
  | false => exact .inr ⟨rfl, rfl⟩
theorem lays_sec (segs : List Nat) (hn : segs.Nodup) : ∀ (L : List (List Nat)) (n : Nat) (d : Dk), n + L.length ≤ 8 * segs.length → Has d segs → ∀ i, (∀ j, n ≤ j → j < n + L.length → num segs j ≠ i) → (lays d segs n L).secs.getD i blank = d.secs.getD i blank
  | [], _, _, _, _, _, _ => rfl
  | s :: L, n, d, h, hs, i, hi => by
    rw [List.length_cons] at h hi
    have hh : Has (d.wr (num segs n) s) segs := fun x hx => by
      have := hs x hx
      simp only [Dk.wr, List.length_set]
      exact this
    have h2 : num segs n ≠ i := hi n (by omega) (by omega)
    rw [lays, lays_sec segs hn L (n + 1) _ (by omega) hh i (fun j h1 h2 => hi j (by omega) (by omega))]
    simp [Dk.wr, h2]
theorem lays_sec_in (segs : List Nat) (hn : segs.Nodup) : ∀ (L : List (List Nat)) (n : Nat) (d : Dk), n + L.length ≤ 8 * segs.length → Has d segs → ∀ j, j < L.length → (lays d segs n L).secs.getD (num segs (n + j)) blank = { d.secs.getD (num segs (n + j)) blank with cached := L.getD j [], waits := true }
  | [], _, _, _, _, j, hj => by simp at hj
  | s :: L, n, d, h, hs, j, hj => by
    rw [List.length_cons] at h hj
    have hh : Has (d.wr (num segs n) s) segs := fun x hx => by
      have := hs x hx
      simp only [Dk.wr, List.length_set]
      exact this
    cases j with
    | zero =>
      have hlt := num_lt hs (show n < 8 * segs.length by omega)
      rw [Nat.add_zero, lays, lays_sec segs hn L (n + 1) _ (by omega) hh _ (fun j h1 h2 e => by have := num_inj hn (by omega) (by omega) e; omega)]
      simp [Dk.wr, hlt]
    | succ j =>
      have hne : num segs n ≠ num segs (n + 1 + j) := fun e => by have := num_inj hn (by omega) (by omega) e; omega
      rw [lays, show n + (j + 1) = n + 1 + j by omega, lays_sec_in segs hn L (n + 1) _ (by omega) hh j (by omega), List.getD_cons_succ]
      simp [Dk.wr, hne]
end Go.Proofs.Yteohjfhflodklab
