/- A record that is written over sectors of elder boots and torn is there whole or not at all: plain mathematics. Condition: elder boots are below 7. -/
import Derived.Test.YteohjfhflodklabTMath
import Derived.Test.YteohjfhflodklabLawT
namespace Go.Proofs.Yteohjfhflodklab
open Go.RowKit Pen
open Crc (four nx run)
/-- A sector of an elder boot: at either end a boot below 7. -/
def Old (o : List Nat) : Prop := o.length = 64 ∧ ∃ a c, a ≤ 6 ∧ c ≤ 6 ∧ o.take 4 = [a, 0, 0, 0] ∧ o.drop 60 = [c, 0, 0, 0]
theorem old_zeros : Old zeros := ⟨by simp [zeros], 0, 0, by decide, by decide, by decide, by decide⟩
theorem le_small {a : Nat} (h : a ≤ 6) : le [a, 0, 0, 0] ≤ 6 := by
  have : le [a, 0, 0, 0] = a := by simp [le]
  omega
theorem old_sound {o : List Nat} (h : Old o) (i : Nat) : sb o i ≤ 6 := by
  obtain ⟨_, a, c, ha, hc, h1, h2⟩ := h
  unfold sb
  split
  · rw [h1]
    have := le_small ha
    omega
  · omega
theorem mix_old {o : List Nat} (h : Old o) {n t : Nat} {p : List Nat} (hp : p.length ≤ 54) (i : Nat) : mix o (sect 7 n p) t = sect 7 n p ∨ sb (mix o (sect 7 n p) t) i ≤ 6 := by
  obtain ⟨h0, a, c, ha, hc, h1, h2⟩ := h
  have hl := sect_len 7 n p hp
  by_cases ht : 61 ≤ t
  · left
    have hs : sect 7 n p = (four 7 ++ (two n ++ (pad p ++ [7]))) ++ [0, 0, 0] := by
      rw [sect, four_small (by decide)]
      simp
    have hl2 : (four 7 ++ (two n ++ (pad p ++ [7]))).length = 61 := by simp [four_len, two, pad_len p hp]
    generalize four 7 ++ (two n ++ (pad p ++ [7])) = A at *
    obtain ⟨u, rfl⟩ : ∃ u, t = 61 + u := ⟨t - 61, by omega⟩
    have hz : o.drop (61 + u) = List.replicate (3 - u) 0 := by
      have e : o.drop (61 + u) = (o.drop 60).drop (1 + u) := by rw [List.drop_drop]; congr 1; omega
      rw [e, h2]
      match u with
      | 0 => rfl
      | 1 => rfl
      | 2 => rfl
      | u + 3 => rw [List.drop_of_length_le (by simp; omega), show 3 - (u + 3) = 0 by omega]; rfl
    rw [mix, hz, hs, ← hl2, List.take_length_add_append, List.append_assoc]
    congr 1
    match u with
    | 0 => rfl
    | 1 => rfl
    | 2 => rfl
    | u + 3 => simp
  · right
    have hd : (mix o (sect 7 n p) t).drop 60 = [c, 0, 0, 0] := by
      rw [mix, List.drop_append, List.length_take, hl]
      rw [List.drop_eq_nil_of_le (by rw [List.length_take, hl]; omega), List.nil_append, List.drop_drop]
      have : t + (60 - min t 64) = 60 := by omega
      rw [this, h2]
    unfold sb
    rw [hd]
    split
    · next h => rw [h.1]; have := le_small hc; omega
    · omega
theorem mix_len {o s : List Nat} (h1 : o.length = 64) (h2 : s.length = 64) (t : Nat) : (mix o s t).length = 64 := by
  rw [mix, List.length_append, List.length_take, List.length_drop, h1, h2]
  omega
theorem over_more {D : Nat → List Nat} {k last lb n m : Nat} {r : List Nat} {fits : Nat → Nat → Bool} (h1 : 1 ≤ r.length) (h2 : r.length ≤ 16384) (hr : ∀ y ∈ r, y < 256) (hfit : ∀ lb b, fits lb b = true → 7 ≤ b) (hm : cnt (r.length + 16) ≤ m)
    (hD : ∀ i, i < cnt (r.length + 16) → ∃ o t, Old o ∧ D (n + i) = mix o (sect 7 (n + i) (prt (mk last 7 r) i)) t) (hz : ∀ i, cnt (r.length + 16) ≤ i → i < m → Old (D (n + i))) :
    scan fits D k last lb n m = [] ∨ scan fits D k last lb n m = [(7, r)] := by
  have hcp := cnt_pos r.length
  cases k with
  | zero => exact .inl rfl
  | succ k =>
    cases hrd : rd last (txt D n m) with
    | none => exact .inl (scan_none _ hrd)
    | some rb =>
      obtain ⟨r', b'⟩ := rb
      by_cases hw : fits lb b' = true ∧ Whole D n m r' b'
      · obtain ⟨hf, hwh⟩ := hw
        have hb0 := hfit _ _ hf
        have hcp' := cnt_pos r'.length
        obtain ⟨k1, k2, k3, m', hx⟩ := rd_iff.1 hrd
        have hsnd : ∀ i, i < cnt (r'.length + 16) → i < cnt (r.length + 16) → D (n + i) = sect 7 (n + i) (prt (mk last 7 r) i) := fun i h3 h4 => by
          obtain ⟨o, t, ho, ht⟩ := hD i h4
          rw [ht]
          rcases mix_old ho (n := n + i) (t := t) (p := prt (mk last 7 r) i) (prt_len _ _) (n + i) with e | e
          · exact e
          · have := hwh.1 i h3
            rw [ht] at this
            omega
        have h0 := hsnd 0 hcp' hcp
        have htx : (txt D n m).take 4 = four r.length := by
          obtain ⟨u, rfl⟩ : ∃ u, m = 1 + u := ⟨m - 1, by omega⟩
          have e1 : txt D n 1 = pad (prt (mk last 7 r) 0) := by
            have : txt D n 1 = mid (D (n + 0)) := by simp [txt]
            rw [this, h0, sect_mid _ _ _ (prt_len _ _)]
          have e2 : (pad (prt (mk last 7 r) 0)).length = 54 := pad_len _ (prt_len _ _)
          rw [txt_add, e1, List.take_append_of_le_length (by omega), pad, prt, Nat.mul_zero, List.drop_zero, List.take_append_of_le_length (by rw [List.length_take, mk_len]; omega), List.take_take, Nat.min_eq_left (by decide)]
          have := (mk_parts last 7 r []).1
          rwa [List.append_nil] at this
        have hlr : r'.length = r.length := by
          have e1 := (mk_parts last b' r' m').1
          rw [← hx, htx] at e1
          exact (four_inj (by omega) (by omega) e1).symm
        have hat : At D n (secsOf n 7 (mk last 7 r)) := fun i hi => by
          rw [secsOf_len, mk_len] at hi
          rw [hsnd i (by rw [hlr]; exact hi) hi, secsOf_get _ _ _ _ (by rw [mk_len]; exact hi)]
        obtain ⟨hrd2, _⟩ := whole_of (m := m) (show Ok (7, r) from ⟨show (7 : Nat) < 2147483648 by decide, h1, h2, hr⟩) hat hm
        rw [hrd] at hrd2
        simp only [Option.some.injEq, Prod.mk.injEq] at hrd2
        obtain ⟨rfl, rfl⟩ := hrd2
        have hend : scan fits D k (nx last r') 7 (n + cnt (r'.length + 16)) (m - cnt (r'.length + 16)) = [] := by
          cases hrd3 : rd (nx last r') (txt D (n + cnt (r'.length + 16)) (m - cnt (r'.length + 16))) with
          | none => exact scan_none _ hrd3
          | some rb =>
            obtain ⟨r2, b2⟩ := rb
            refine scan_no _ hrd3 fun e => ?_
            by_cases hm0 : m - cnt (r'.length + 16) = 0
            · rw [hm0, txt_zero, rd_short (by decide)] at hrd3
              cases hrd3
            · have h9 := e.2.1 0 (cnt_pos _)
              have h8 := hfit _ _ e.1
              have h7 := old_sound (hz (cnt (r'.length + 16)) (Nat.le_refl _) (by omega)) (n + cnt (r'.length + 16) + 0)
              simp only [Nat.add_zero] at h9 h7
              omega
        rw [scan_yes k hrd hf hwh, hend]
        exact .inr rfl
      · exact .inl (scan_no _ hrd hw)
/-- What lies there behind the crash. -/
theorem over_facts {d : Dk} {segs : List Nat} {r c : List Nat} (hcalm : Calm d) (hn : segs.Nodup) (hs : Has d segs) (hold : ∀ i, Old (d.read i)) (hfit : cnt (r.length + 16) ≤ 8 * segs.length) :
    let d3 := (lays d segs 0 (secsOf 0 7 (mk 0 7 r))).crash c
    (∀ i, i < cnt (r.length + 16) → ∃ o t, Old o ∧ pl d3 segs (0 + i) = mix o (sect 7 (0 + i) (prt (mk 0 7 r) i)) t) ∧ (∀ i, cnt (r.length + 16) ≤ i → i < 8 * segs.length → Old (pl d3 segs (0 + i))) := by
  intro d3
  have hl : (secsOf 0 7 (mk 0 7 r)).length = cnt (r.length + 16) := by rw [secsOf_len, mk_len]
  have hfl := (lays_facts d segs 0 (secsOf 0 7 (mk 0 7 r))).2.2.1
  refine ⟨fun i hi => ?_, fun i h1 h2 => ?_⟩
  · have hlt := num_lt hs (show 0 + i < 8 * segs.length by omega)
    have hsec := lays_sec_in segs hn (secsOf 0 7 (mk 0 7 r)) 0 d (by rw [hl]; omega) hs i (by rw [hl]; exact hi)
    rcases crash_read (d := lays d segs 0 (secsOf 0 7 (mk 0 7 r))) c (num segs (0 + i)) (by rw [hfl]; exact hlt) with ⟨_, t, h2⟩ | ⟨h1, _⟩
    · refine ⟨d.read (num segs (0 + i)), t, hold _, ?_⟩
      rw [pl, h2, hsec]
      show mix (d.secs.getD (num segs (0 + i)) blank).safe _ t = _
      rw [calm_safe hcalm, secsOf_get _ _ _ _ (by rw [mk_len]; exact hi)]
    · rw [hsec] at h1; cases h1
  · have hlt := num_lt hs (show 0 + i < 8 * segs.length by omega)
    have hsec := lays_sec segs hn (secsOf 0 7 (mk 0 7 r)) 0 d (by rw [hl]; omega) hs (num segs (0 + i)) (fun j h3 h4 e => by rw [hl] at h4; have := num_inj hn (by omega) (by omega) e; omega)
    rcases crash_read (d := lays d segs 0 (secsOf 0 7 (mk 0 7 r))) c (num segs (0 + i)) (by rw [hfl]; exact hlt) with ⟨h3, _⟩ | ⟨_, h3⟩
    · rw [hsec, hcalm] at h3; cases h3
    · rw [pl, h3, hsec, calm_safe hcalm]; exact hold _
end Go.Proofs.Yteohjfhflodklab
