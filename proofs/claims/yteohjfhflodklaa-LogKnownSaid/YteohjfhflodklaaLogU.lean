/- What a disk holds behind an append: plain mathematics. No condition but that segments are apart. -/
import Derived.Test.YteohjfhflodklaaLogR
namespace Go.Proofs.Yteohjfhflodklaa
open Go.RowKit Pen
open Crc (four nx run)
theorem read_wr {d : Dk} {i : Nat} (b : List Nat) (j : Nat) (hi : i < d.secs.length) : (d.wr i b).read j = if j = i then b else d.read j := by
  unfold Dk.read Dk.wr
  by_cases h : j = i
  · subst h
    rw [if_pos rfl]
    simp [hi, Sec.last]
  · rw [if_neg h]
    have h2 : i ≠ j := fun e => h e.symm
    simp [h2]
theorem num_inj {segs : List Nat} (hn : segs.Nodup) {i j : Nat} (hi : i < 8 * segs.length) (hj : j < 8 * segs.length) (h : num segs i = num segs j) : i = j := by
  unfold num at h
  have h1 : segs.getD (i / 8) 0 = segs.getD (j / 8) 0 := by omega
  have h2 : i % 8 = j % 8 := by omega
  have hi8 : i / 8 < segs.length := by omega
  have hj8 : j / 8 < segs.length := by omega
  have h3 : i / 8 = j / 8 := by
    rw [List.getD_eq_getElem?_getD, List.getD_eq_getElem?_getD, List.getElem?_eq_getElem hi8, List.getElem?_eq_getElem hj8] at h1
    exact (List.getElem_inj (h₀ := hi8) (h₁ := hj8) hn).1 h1
  omega
/-- Where nothing is laid all is as it was; where something is laid, that. -/
theorem read_lays (segs : List Nat) (hn : segs.Nodup) : ∀ (L : List (List Nat)) (n : Nat) (d : Dk), n + L.length ≤ 8 * segs.length → Has d segs → ∀ i, (∀ j, n ≤ j → j < n + L.length → num segs j ≠ i) → (lays d segs n L).read i = d.read i
  | [], _, _, _, _, _, _ => rfl
  | s :: L, n, d, h, hs, i, hi => by
    rw [List.length_cons] at h hi
    have hh : Has (d.wr (num segs n) s) segs := fun x hx => by
      have := hs x hx
      simp only [Dk.wr, List.length_set]
      exact this
    rw [lays, read_lays segs hn L (n + 1) _ (by omega) hh i (fun j h1 h2 => hi j (by omega) (by omega)), read_wr s i (num_lt hs (by omega)), if_neg (fun e => hi n (by omega) (by omega) e.symm)]
theorem pl_lays_in (segs : List Nat) (hn : segs.Nodup) : ∀ (L : List (List Nat)) (n : Nat) (d : Dk), n + L.length ≤ 8 * segs.length → Has d segs → ∀ j, j < L.length → pl (lays d segs n L) segs (n + j) = L.getD j []
  | [], _, _, _, _, j, hj => by simp at hj
  | s :: L, n, d, h, hs, j, hj => by
    rw [List.length_cons] at h hj
    have hh : Has (d.wr (num segs n) s) segs := fun x hx => by
      have := hs x hx
      simp only [Dk.wr, List.length_set]
      exact this
    cases j with
    | zero =>
      rw [lays, pl, read_lays segs hn L (n + 1) _ (by omega) hh _ (fun j h1 h2 e => by have := num_inj hn (by omega) (by omega) e; omega), Nat.add_zero, read_wr s _ (num_lt hs (by omega)), if_pos rfl]
      rfl
    | succ j =>
      rw [lays, show n + (j + 1) = n + 1 + j by omega, pl_lays_in segs hn L (n + 1) _ (by omega) hh j (by omega), List.getD_cons_succ]
theorem pl_lays_out (segs : List Nat) (hn : segs.Nodup) (L : List (List Nat)) (n : Nat) (d : Dk) (h : n + L.length ≤ 8 * segs.length) (hs : Has d segs) (j : Nat) (hj : j < 8 * segs.length) (ho : j < n ∨ n + L.length ≤ j) : pl (lays d segs n L) segs j = pl d segs j :=
  read_lays segs hn L n d h hs _ (fun i h1 h2 e => by have := num_inj hn (by omega) hj e; omega)
theorem num_app (segs more : List Nat) {i : Nat} (h : i < 8 * segs.length) : num (segs ++ more) i = num segs i := by
  unfold num
  have : i / 8 < segs.length := by omega
  simp [List.getElem?_append_left this]
/-- What is in a log, behind an append. -/
theorem at_append {d : Dk} {segs more : List Nat} {rs : List (Nat × List Nat)} {bt : Nat} {r : List Nat} (hn : (segs ++ more).Nodup) (hs : Has d (segs ++ more)) (h : At (pl d segs) 0 (lay 0 0 rs)) (hf : lenOf rs ≤ 8 * segs.length) (hfit : lenOf rs + cnt (r.length + 16) ≤ 8 * (segs ++ more).length) :
    At (pl (lays d (segs ++ more) (lenOf rs) (secsOf (lenOf rs) bt (mk (lastOf 0 rs) bt r))) (segs ++ more)) 0 (lay 0 0 (rs ++ [(bt, r)])) := by
  have hl : (secsOf (lenOf rs) bt (mk (lastOf 0 rs) bt r)).length = cnt (r.length + 16) := by rw [secsOf_len, mk_len]
  rw [lay_app]
  refine at_app ?_ ?_
  · intro i hi
    rw [lay_len] at hi
    rw [Nat.zero_add, pl_lays_out _ hn _ _ _ (by rw [hl]; exact hfit) hs i (by omega) (.inl hi)]
    have := h i (by rw [lay_len]; exact hi)
    rw [Nat.zero_add] at this
    rw [← this, pl, num_app _ _ (by omega)]
    rfl
  · rw [lay_len, Nat.zero_add, lay, lay, List.append_nil]
    intro i hi
    rw [hl] at hi
    exact pl_lays_in _ hn _ _ _ (by rw [hl]; exact hfit) hs i (by rw [hl]; exact hi)
/-- All that lies in no place of the log is nought. -/
def Blank (d : Dk) (segs : List Nat) (n : Nat) : Prop := ∀ i, i < d.secs.length → (∀ j, j < n → num segs j ≠ i) → d.read i = zeros
theorem blank_append {d : Dk} {segs more : List Nat} {n : Nat} {L : List (List Nat)} (hn : (segs ++ more).Nodup) (hs : Has d (segs ++ more)) (h : Blank d segs n) (hf : n ≤ 8 * segs.length) (hfit : n + L.length ≤ 8 * (segs ++ more).length) : Blank (lays d (segs ++ more) n L) (segs ++ more) (n + L.length) := by
  intro i hi hj
  rw [(lays_facts d (segs ++ more) n L).2.2.1] at hi
  rw [read_lays _ hn L n d hfit hs i (fun j h1 h2 => hj j h2)]
  refine h i hi fun j h1 => ?_
  rw [← num_app segs more (by omega)]
  exact hj j (by omega)
theorem fit_true (lb : Nat) (rs : List (Nat × List Nat)) : Fit (fun _ _ => true) lb rs := by
  induction rs generalizing lb with
  | nil => trivial
  | cons x rs ih => exact ⟨rfl, ih _⟩
/-- What was laid is found. -/
theorem scan_all {D : Nat → List Nat} {rs : List (Nat × List Nat)} (ho : ∀ x ∈ rs, Ok x) (h : At D 0 (lay 0 0 rs)) : scan (fun _ _ => true) D (lenOf rs) 0 0 0 (lenOf rs) = rs := by
  have hl := len_le rs
  have e : lenOf rs = rs.length + (lenOf rs - rs.length) := by omega
  have := scan_lay rs (lenOf rs - rs.length) 0 0 0 (lenOf rs) ho (fit_true 0 rs) h (Nat.le_refl _)
  rw [← e, Nat.sub_self] at this
  rw [this, scan_none _ (rd_short (by rw [txt_zero]; decide)), List.append_nil]
theorem zeros_take : (mid zeros).take 4 = [0, 0, 0, 0] := by decide
/-- Noughts are no record. -/
theorem scan_blank {fits : Nat → Nat → Bool} {D : Nat → List Nat} {k last lb n m : Nat} (h : 0 < m → D n = zeros) : scan fits D k last lb n m = [] := by
  cases m with
  | zero => exact scan_none _ (rd_short (by rw [txt_zero]; decide))
  | succ m =>
    apply scan_none
    apply rd_zero
    rw [show m + 1 = 1 + m by omega, txt_add]
    have : txt D n 1 = mid zeros := by rw [← h (by omega)]; simp [txt]
    rw [this, List.take_append_of_le_length (by decide), zeros_take]
end Go.Proofs.Yteohjfhflodklaa
