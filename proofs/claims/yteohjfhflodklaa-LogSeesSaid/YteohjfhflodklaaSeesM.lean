/- A log of which up to four bytes one behind another are turned is not found whole: plain mathematics. No condition but that it was laid. -/
import Derived.Test.YteohjfhflodklaaLogU
namespace Go.Proofs.Yteohjfhflodklaa
open Go.RowKit Pen
open Crc (four nx run)
theorem exists_min {P : Nat → Prop} (h : ∃ n, P n) : ∃ n, P n ∧ ∀ m, m < n → ¬ P m := by
  obtain ⟨n, hn⟩ := h
  induction n using Nat.strongRecOn with
  | _ n ih =>
    by_cases hm : ∃ m, m < n ∧ P m
    · obtain ⟨m, h1, h2⟩ := hm
      exact ih m h1 h2
    · exact ⟨n, hn, fun m h1 h2 => hm ⟨m, h1, h2⟩⟩
/-- A frame that is turned, with anything behind it, is none. -/
theorem near_none_app {a last b : Nat} {r Y rest : List Nat} (h1 : 1 ≤ r.length) (h2 : r.length ≤ 16384) (hb : b < 2147483648) (hr : ∀ x ∈ r, x < 256) (hY : ∀ x ∈ Y, x < 256) (h : Near a (mk last b r) Y) (hne : Y ≠ mk last b r) : rd last (Y ++ rest) = none := by
  cases hp : rd last (Y ++ rest) with
  | none => rfl
  | some p =>
    obtain ⟨r', b'⟩ := p
    obtain ⟨k1, k2, k3, m', e⟩ := rd_iff.1 hp
    have hX := mk_lt (last := last) h2 hb hr
    have hlen := h.1
    rw [mk_len] at hlen
    have t1 := mk_head last b r []
    rw [List.append_nil] at t1
    have t2 := mk_head last b' r' m'
    rw [← e, List.take_append_of_le_length (by omega)] at t2
    have hh := near_run (Crc.flip_lt last) (h.take 12) (fun x hx => hX x (List.mem_of_mem_take hx)) (fun x hx => hY x (List.mem_of_mem_take hx)) (by
      rw [t1, t2, fits _ (head_lt (by omega) (by omega)), fits _ (head_lt (by omega) (by omega))])
    have g4 : (mk last b r).take 4 = Y.take 4 := by
      have := congrArg (List.take 4) hh
      rwa [List.take_take, List.take_take] at this
    have p1 := (mk_parts last b r []).1
    have q1 := (mk_parts last b' r' m').1
    rw [List.append_nil] at p1
    rw [← e, List.take_append_of_le_length (by omega)] at q1
    have e1 := four_inj (by omega) (by omega) (p1.symm.trans (g4.trans q1))
    have e3 : Y = mk last b' r' := by
      have := congrArg (List.take (r.length + 16)) e
      rwa [List.take_append_of_le_length (by omega), List.take_of_length_le (by omega), List.take_append_of_le_length (by rw [mk_len]; omega), List.take_of_length_le (by rw [mk_len]; omega)] at this
    have h9 := near_none h2 hb hr hY h hne
    rw [e3, rd_mk0 k1 k2 k3] at h9
    cases h9
theorem txt_get {D : Nat → List Nat} {n : Nat} : ∀ {m : Nat}, (∀ i, i < m → (D (n + i)).length = 64) → ∀ p, p < 54 * m → (txt D n m).getD p 0 = (D (n + p / 54)).getD (6 + p % 54) 0
  | 0, _, p, hp => by omega
  | m + 1, h, p, hp => by
    have hl := txt_len (D := D) (n := n) (m := m) (fun i hi => h i (by omega))
    rw [txt_succ]
    by_cases hpm : p < 54 * m
    · rw [List.getD_eq_getElem?_getD, List.getElem?_append_left (by omega), ← List.getD_eq_getElem?_getD]
      exact txt_get (fun i hi => h i (by omega)) p hpm
    · have e1 : p / 54 = m := by omega
      have e2 : p % 54 = p - 54 * m := by omega
      rw [List.getD_eq_getElem?_getD, List.getElem?_append_right (by omega), hl, e1, e2, mid, List.getElem?_take, if_pos (by omega), List.getElem?_drop, ← List.getD_eq_getElem?_getD]
/-- Whatever a scan finds lies on sound sectors. -/
theorem scan_sound {fits : Nat → Nat → Bool} {D : Nat → List Nat} : ∀ (k last lb n m : Nat), ∀ i, i < lenOf (scan fits D k last lb n m) → 0 ≤ sb (D (n + i)) (n + i)
  | 0, last, lb, n, m, i, hi => by simp [scan, lenOf] at hi
  | k + 1, last, lb, n, m, i, hi => by
    cases hrd : rd last (txt D n m) with
    | none => rw [scan_none _ hrd] at hi; simp [lenOf] at hi
    | some rb =>
      obtain ⟨r, b⟩ := rb
      by_cases hw : fits lb b = true ∧ Whole D n m r b
      · rw [scan_yes k hrd hw.1 hw.2, lenOf_cons] at hi
        by_cases hc : i < cnt (r.length + 16)
        · rw [hw.2.1 i hc]
          omega
        · have := scan_sound (fits := fits) (D := D) k (nx last r) b (n + cnt (r.length + 16)) (m - cnt (r.length + 16)) (i - cnt (r.length + 16)) (by simp only at hi; omega)
          rwa [show n + cnt (r.length + 16) + (i - cnt (r.length + 16)) = n + i by omega] at this
      · rw [scan_no _ hrd hw] at hi; simp [lenOf] at hi
/-- The record that lies at a place. -/
theorem rec_at : ∀ (rs : List (Nat × List Nat)) (i : Nat), i < lenOf rs → ∃ P b r Q, rs = P ++ (b, r) :: Q ∧ lenOf P ≤ i ∧ i < lenOf P + cnt (r.length + 16)
  | [], i, h => by simp [lenOf] at h
  | (b, r) :: rs, i, h => by
    rw [lenOf_cons] at h
    by_cases hc : i < cnt (r.length + 16)
    · exact ⟨[], b, r, rs, rfl, Nat.zero_le _, by rw [lenOf_nil]; omega⟩
    · obtain ⟨P, b', r', Q, e, h1, h2⟩ := rec_at rs (i - cnt (r.length + 16)) (by simp only at h; omega)
      refine ⟨(b, r) :: P, b', r', Q, by rw [e]; rfl, ?_, ?_⟩
      · rw [lenOf_cons]; simp only; omega
      · rw [lenOf_cons]; simp only; omega
/-- D2 is D with up to four bytes one behind another turned, from k on. -/
structure Turned (D D2 : Nat → List Nat) (t k : Nat) : Prop where
  len : ∀ n, n < t → (D n).length = 64 ∧ (D2 n).length = 64
  lt : ∀ n, n < t → ∀ x ∈ D2 n, x < 256
  near : ∀ n, n < t → ∀ j, j < 64 → (D2 n).getD j 0 ≠ (D n).getD j 0 → k ≤ 64 * n + j ∧ 64 * n + j < k + 4
theorem list_same {l m : List Nat} (h1 : l.length = 64) (h2 : m.length = 64) (h : ∀ j, j < 64 → l.getD j 0 = m.getD j 0) : l = m := ext_getD (by omega) (fun j hj => h j (by omega))
/-- Where the ends of a sector part, or its place is another, it is not sound. -/
theorem sb_no {s : List Nat} {n : Nat} (h : s.take 4 ≠ s.drop 60 ∨ (s.drop 4).take 2 ≠ two n) : sb s n = -1 := by
  unfold sb
  rw [if_neg]
  rintro ⟨h1, h2⟩
  rcases h with h | h
  · exact h h1
  · exact h h2
theorem turned_sees {D D2 : Nat → List Nat} {k : Nat} {rs : List (Nat × List Nat)} (hT : Turned D D2 (lenOf rs) k) (ho : ∀ x ∈ rs, Ok x) (hat : At D 0 (lay 0 0 rs)) (hhit : ∃ n, n < lenOf rs ∧ ∃ j, j < 64 ∧ (D2 n).getD j 0 ≠ (D n).getD j 0) :
    lenOf (scan (fun _ _ => true) D2 (lenOf rs) 0 0 0 (lenOf rs)) < lenOf rs := by
  -- the first byte that is turned
  obtain ⟨g0, ⟨n0, j0, hn0, hj0, hg0, hdiff⟩, hmin⟩ := exists_min (P := fun g => ∃ n j, n < lenOf rs ∧ j < 64 ∧ 64 * n + j = g ∧ (D2 n).getD j 0 ≠ (D n).getD j 0) (by
    obtain ⟨n, hn, j, hj, h⟩ := hhit
    exact ⟨_, n, j, hn, hj, rfl, h⟩)
  have hk0 := hT.near n0 hn0 j0 hj0 hdiff
  have hbefore : ∀ n j, n < lenOf rs → j < 64 → 64 * n + j < g0 → (D2 n).getD j 0 = (D n).getD j 0 := fun n j h1 h2 h3 => Classical.byContradiction fun e => hmin _ h3 ⟨n, j, h1, h2, rfl, e⟩
  have hbehind : ∀ n j, n < lenOf rs → j < 64 → g0 + 4 ≤ 64 * n + j → (D2 n).getD j 0 = (D n).getD j 0 := fun n j h1 h2 h3 => Classical.byContradiction fun e => by
    have := hT.near n h1 j h2 e
    omega
  have hsame : ∀ n, n < n0 → D2 n = D n := fun n hn => list_same (hT.len n (by omega)).2 (hT.len n (by omega)).1 (fun j hj => hbefore n j (by omega) hj (by omega))
  -- the record that lies there
  obtain ⟨P, b, r, Q, hrs, hP1, hP2⟩ := rec_at rs n0 hn0
  have hok : Ok (b, r) := ho _ (by rw [hrs]; simp)
  obtain ⟨ho1, ho2, ho3, ho4⟩ := hok
  simp only at ho1 ho2 ho3 ho4
  have hlen : lenOf rs = lenOf P + (cnt (r.length + 16) + lenOf Q) := by rw [hrs, lenOf_app, lenOf_cons]
  have hatP : At D2 0 (lay 0 0 P) := by
    have h1 := hat
    rw [hrs, lay_app] at h1
    exact h1.left.same (fun i hi => by rw [lay_len] at hi; rw [Nat.zero_add]; exact hsame i (by omega))
  have hatR : At D (lenOf P) (secsOf (lenOf P) b (mk (lastOf 0 P) b r)) := by
    have h1 := hat
    rw [hrs, lay_app] at h1
    have h2 := h1.right
    rw [lay_len, Nat.zero_add, lay] at h2
    exact h2.left
  have hPl := len_le P
  obtain ⟨f, hf⟩ : ∃ f, lenOf rs = P.length + f := ⟨lenOf rs - P.length, by omega⟩
  have hscan := scan_lay (fits := fun _ _ => true) P f 0 0 0 (lenOf rs) (fun y hy => ho y (by rw [hrs]; simp [hy])) (fit_true 0 P) hatP (by omega)
  rw [← hf, Nat.zero_add] at hscan
  rw [hscan, lenOf_app]
  -- it is enough that the scan from there on does not come past n0
  have henough : lenOf (scan (fun _ _ => true) D2 f (lastOf 0 P) (bootOf 0 P) (lenOf P) (lenOf rs - lenOf P)) ≤ n0 - lenOf P → lenOf P + lenOf (scan (fun _ _ => true) D2 f (lastOf 0 P) (bootOf 0 P) (lenOf P) (lenOf rs - lenOf P)) < lenOf rs := fun h => by omega
  have hunsound : sb (D2 n0) n0 = -1 → lenOf (scan (fun _ _ => true) D2 f (lastOf 0 P) (bootOf 0 P) (lenOf P) (lenOf rs - lenOf P)) ≤ n0 - lenOf P := fun h => Nat.le_of_not_lt fun h2 => by
    have := scan_sound (fits := fun _ _ => true) (D := D2) f (lastOf 0 P) (bootOf 0 P) (lenOf P) (lenOf rs - lenOf P) (n0 - lenOf P) h2
    rw [show lenOf P + (n0 - lenOf P) = n0 by omega, h] at this
    omega
  apply henough
  obtain ⟨hl1, hl2⟩ := hT.len n0 hn0
  have hsec : D n0 = sect b n0 (prt (mk (lastOf 0 P) b r) (n0 - lenOf P)) := by
    have h1 := hatR (n0 - lenOf P) (by rw [secsOf_len, mk_len]; omega)
    rwa [show lenOf P + (n0 - lenOf P) = n0 by omega, secsOf_get _ _ _ _ (by rw [mk_len]; omega), show lenOf P + (n0 - lenOf P) = n0 by omega] at h1
  have hends : (D n0).take 4 = (D n0).drop 60 := by rw [hsec, sect_head, sect_tail _ _ _ (prt_len _ _)]
  have hplace : ((D n0).drop 4).take 2 = two n0 := by rw [hsec, sect_place]
  by_cases hedge : j0 < 6 ∨ ∃ j, 60 ≤ j ∧ j < 64 ∧ (D2 n0).getD j 0 ≠ (D n0).getD j 0
  · apply hunsound
    by_cases hpl : 4 ≤ j0 ∧ j0 < 6
    · apply sb_no
      right
      intro e
      apply hdiff
      have h1 := congrArg (fun l : List Nat => l.getD (j0 - 4) 0) (e.trans hplace.symm)
      rw [getD_take _ _ _ (by omega), getD_take _ _ _ (by omega), getD_drop, getD_drop, show 4 + (j0 - 4) = j0 by omega] at h1
      exact h1
    · apply sb_no
      left
      intro e
      by_cases hh : j0 < 4
      · apply hdiff
        have h1 := congrArg (fun l : List Nat => l.getD j0 0) e
        have h2 := congrArg (fun l : List Nat => l.getD j0 0) hends
        rw [getD_take _ _ _ hh, getD_drop] at h1 h2
        rw [h1, h2]
        exact hbehind n0 (60 + j0) hn0 (by omega) (by omega)
      · obtain ⟨j, hj1, hj2, hj3⟩ : ∃ j, 60 ≤ j ∧ j < 64 ∧ (D2 n0).getD j 0 ≠ (D n0).getD j 0 := by
          rcases hedge with h | h
          · omega
          · exact h
        apply hj3
        have h1 := congrArg (fun l : List Nat => l.getD (j - 60) 0) e
        have h2 := congrArg (fun l : List Nat => l.getD (j - 60) 0) hends
        rw [getD_take _ _ _ (by omega), getD_drop, show 60 + (j - 60) = j by omega] at h1 h2
        rw [← h1, ← h2]
        exact hbefore n0 (j - 60) hn0 (by omega) (by omega)
  · -- all that is turned lies in the middle of one sector
    have hj6 : 6 ≤ j0 := Nat.le_of_not_lt fun h => hedge (.inl h)
    have htail : ∀ j, 60 ≤ j → j < 64 → (D2 n0).getD j 0 = (D n0).getD j 0 := fun j h1 h2 => Classical.byContradiction fun e => hedge (.inr ⟨j, h1, h2, e⟩)
    have hj60 : j0 < 60 := Nat.lt_of_not_le fun h => hdiff (htail j0 h hj0)
    obtain ⟨m, hm⟩ : ∃ m, lenOf rs - lenOf P = m := ⟨_, rfl⟩
    have hcm : cnt (r.length + 16) ≤ m := by omega
    have hL1 : ∀ i, i < m → (D (lenOf P + i)).length = 64 := fun i hi => (hT.len _ (by omega)).1
    have hL2 : ∀ i, i < m → (D2 (lenOf P + i)).length = 64 := fun i hi => (hT.len _ (by omega)).2
    have hg1 := txt_get hL1
    have hg2 := txt_get hL2
    have ht1 := txt_len hL1
    have ht2 := txt_len hL2
    have hlt2 : ∀ x ∈ txt D2 (lenOf P) m, x < 256 := txt_lt fun i hi => hT.lt _ (by omega)
    obtain ⟨a, ha⟩ : ∃ a, 54 * (n0 - lenOf P) + (j0 - 6) = a := ⟨_, rfl⟩
    have hnear : ∀ p, p < 54 * m → (txt D2 (lenOf P) m).getD p 0 ≠ (txt D (lenOf P) m).getD p 0 → a ≤ p ∧ p < a + 4 := fun p hp e => by
      rw [hg1 p hp, hg2 p hp] at e
      have h1 : g0 ≤ 64 * (lenOf P + p / 54) + (6 + p % 54) := Nat.le_of_not_lt fun h => e (hbefore _ _ (by omega) (by omega) h)
      have h2 : 64 * (lenOf P + p / 54) + (6 + p % 54) < g0 + 4 := Nat.lt_of_not_le fun h => e (hbehind _ _ (by omega) (by omega) h)
      omega
    have hadiff : (txt D2 (lenOf P) m).getD a 0 ≠ (txt D (lenOf P) m).getD a 0 := by
      have hp : a < 54 * m := by omega
      rw [hg1 a hp, hg2 a hp, show lenOf P + a / 54 = n0 by omega, show 6 + a % 54 = j0 by omega]
      exact hdiff
    have htx := at_txt hatR
    rw [mk_len] at htx
    obtain ⟨u, hu⟩ : ∃ u, m = cnt (r.length + 16) + u := ⟨m - cnt (r.length + 16), by omega⟩
    have hT1 : txt D (lenOf P) m = mk (lastOf 0 P) b r ++ (List.replicate (54 * cnt (r.length + 16) - (r.length + 16)) 0 ++ txt D (lenOf P + cnt (r.length + 16)) u) := by
      rw [hu, txt_add, htx, List.append_assoc]
    have hge := cnt_pos r.length
    have h54 : r.length + 16 ≤ 54 * cnt (r.length + 16) := by unfold cnt; omega
    obtain ⟨Y, hY⟩ : ∃ Y, (txt D2 (lenOf P) m).take (r.length + 16) = Y := ⟨_, rfl⟩
    have hYl : Y.length = r.length + 16 := by rw [← hY, List.length_take, ht2]; omega
    have hFY : (txt D (lenOf P) m).take (r.length + 16) = mk (lastOf 0 P) b r := by rw [hT1]; exact List.take_left' (mk_len _ _ _)
    have hNear : Near a (mk (lastOf 0 P) b r) Y := by
      refine ⟨by rw [mk_len, hYl], fun j hj hne => ?_⟩
      rw [mk_len] at hj
      rw [← hFY, ← hY, getD_take _ _ _ hj, getD_take _ _ _ hj] at hne
      exact hnear j (by omega) (fun e => hne e.symm)
    have hsplit : txt D2 (lenOf P) m = Y ++ (txt D2 (lenOf P) m).drop (r.length + 16) := by rw [← hY, List.take_append_drop]
    have hnone : scan (fun _ _ => true) D2 f (lastOf 0 P) (bootOf 0 P) (lenOf P) m = [] := by
      by_cases hYF : Y = mk (lastOf 0 P) b r
      · have hrd : rd (lastOf 0 P) (txt D2 (lenOf P) m) = some (r, b) := by rw [hsplit, hYF]; exact rd_mk ho2 ho3 ho1 _
        refine scan_no _ hrd fun e => ?_
        have hage : r.length + 16 ≤ a := Nat.le_of_not_lt fun h => by
          apply hadiff
          rw [← getD_take (txt D2 (lenOf P) m) (r.length + 16) a h, ← getD_take (txt D (lenOf P) m) (r.length + 16) a h, hY, hFY, hYF]
        have h0 := e.2.2 a (by omega) hage
        apply hadiff
        rw [h0, hT1]
        simp only [List.getD_eq_getElem?_getD]
        rw [List.getElem?_append_right (by rw [mk_len]; exact hage), mk_len, List.getElem?_append_left (by simp; omega), List.getElem?_replicate]
        split <;> rfl
      · refine scan_none _ ?_
        rw [hsplit]
        exact near_none_app ho2 ho3 ho1 ho4 (fun x hx => hlt2 x (by rw [← hY] at hx; exact List.mem_of_mem_take hx)) hNear hYF
    rw [hm, hnone, lenOf_nil]
    exact Nat.zero_le _
theorem turned_not {D D2 : Nat → List Nat} {t k : Nat} (hT : Turned D D2 t k) (h : ¬ ∃ n, n < t ∧ ∃ j, j < 64 ∧ (D2 n).getD j 0 ≠ (D n).getD j 0) : ∀ n, n < t → D2 n = D n := fun n hn =>
  list_same (hT.len n hn).2 (hT.len n hn).1 (fun j hj => Classical.byContradiction fun e => h ⟨n, hn, j, hj, e⟩)
end Go.Proofs.Yteohjfhflodklaa
