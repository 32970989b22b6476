/- What is read of a body, byte by byte; parts whose pieces are there. No condition. -/
import Derived.Test.YtccahhehbpahoaaBoO
namespace Go.Proofs.Ytccahhehbpahoaa
set_option linter.unusedVariables false
open Go.ChangeShapes Go.WideShapes Go.ChangeAt Go.RowKit
theorem ab_len {off to last size : Int} {l : List Pt} (h : okB last size l = true) (ht : off ≤ to) : (ahead off l).length + (behind to l).length ≤ l.length + 1 := by
  induction l generalizing last with
  | nil => simp [ahead, behind]
  | cons p ps ih =>
    obtain ⟨h1, h2, h3, h4⟩ := okB_cons.1 h
    have h5 := h1.1
    unfold ahead behind
    by_cases hp : off ≤ p.off
    · rw [if_pos hp]
      have hb := behind_len to ps
      by_cases he : p.off + p.len ≤ to
      · rw [if_pos he]; simp only [List.length_nil, List.length_cons]; omega
      · rw [if_neg he]; simp only [List.length_nil, List.length_cons]; omega
    · rw [if_neg hp]
      by_cases he : p.off + p.len ≤ to
      · rw [if_pos he]
        have := ih h4
        simp only [List.length_cons]; omega
      · rw [if_neg he, ahead_nil (okB_low h4 (by omega : off ≤ p.off + p.len))]
        have hb := behind_len to ps
        simp only [List.length_nil, List.length_cons]; omega
/-- The byte at i, or d where no part is. -/
def byteOr (ps : Ps) : List Pt → Int → Nat → Nat
  | [], _, d => d
  | p :: l, i, d => if p.off ≤ i ∧ i < p.off + p.len then (txt ps p.ch).getD (p.pos + (i - p.off)).toNat 0 else byteOr ps l i d
theorem byteOr_low {ps : Ps} {last size : Int} {l : List Pt} (h : okB last size l = true) {i : Int} (hi : i < last) (d : Nat) : byteOr ps l i d = d := by
  induction l generalizing last with
  | nil => rfl
  | cons p l ih =>
    obtain ⟨h1, h2, h3, h4⟩ := okB_cons.1 h
    have h5 := h1.1
    unfold byteOr
    rw [if_neg (by omega)]
    exact ih h4 (by omega)
theorem byteOr_high {ps : Ps} {l : List Pt} {i : Int} (h : ∀ p ∈ l, p.off + p.len ≤ i) (d : Nat) : byteOr ps l i d = d := by
  induction l with
  | nil => rfl
  | cons p l ih =>
    have := h p (List.mem_cons_self ..)
    unfold byteOr
    rw [if_neg (by omega)]
    exact ih (fun q hq => h q (List.mem_cons_of_mem _ hq))
theorem byteOr_behind {ps : Ps} {last size : Int} {l : List Pt} (h : okB last size l = true) {off i : Int} (hi : off ≤ i) (d : Nat) : byteOr ps (behind off l) i d = byteOr ps l i d := by
  induction l generalizing last with
  | nil => rfl
  | cons p l ih =>
    obtain ⟨h1, h2, h3, h4⟩ := okB_cons.1 h
    have h5 := h1.1
    unfold behind
    by_cases he : p.off + p.len ≤ off
    · rw [if_pos he, ih h4]
      conv => rhs; unfold byteOr
      rw [if_neg (by omega)]
    · rw [if_neg he]
      unfold byteOr
      rw [ih h4]
      by_cases hc : p.off ≤ i ∧ i < p.off + p.len
      · rw [if_pos hc, if_pos (by unfold rest; simp only; omega)]
        unfold rest
        simp only
        congr 2
        omega
      · rw [if_neg hc, if_neg (by unfold rest; simp only; omega)]
theorem byteOr_ahead {ps : Ps} {last size : Int} {l : List Pt} (h : okB last size l = true) {off i : Int} (hi : i < off) (d : Nat) : byteOr ps (ahead off l) i d = byteOr ps l i d := by
  induction l generalizing last with
  | nil => rfl
  | cons p l ih =>
    obtain ⟨h1, h2, h3, h4⟩ := okB_cons.1 h
    have h5 := h1.1
    unfold ahead
    by_cases he : off ≤ p.off
    · rw [if_pos he, byteOr_low (last := p.off) (size := size) (okB_cons.2 ⟨h1, Int.le_refl _, h3, h4⟩) (by omega)]
      rfl
    · rw [if_neg he]
      unfold byteOr
      rw [ih h4]
      by_cases hc : p.off ≤ i ∧ i < p.off + p.len
      · rw [if_pos hc, if_pos (by unfold cut; simp only; omega)]
        rfl
      · rw [if_neg hc, if_neg (by unfold cut; simp only; omega)]
theorem getD_splice (a b : List Nat) (o j : Nat) (h : o + b.length ≤ a.length) : (splice a o b).getD j 0 = if o ≤ j ∧ j < o + b.length then b.getD (j - o) 0 else a.getD j 0 := by
  unfold splice
  simp only [List.getD_eq_getElem?_getD]
  by_cases h1 : j < o
  · rw [List.getElem?_append_left (by rw [List.length_take]; omega), List.getElem?_take_of_lt h1, if_neg (by omega)]
  · rw [List.getElem?_append_right (by rw [List.length_take]; omega), List.length_take, Nat.min_eq_left (by omega)]
    by_cases h2 : j < o + b.length
    · rw [List.getElem?_append_left (by omega), if_pos (by omega)]
    · rw [List.getElem?_append_right (by omega), if_neg (by omega), List.getElem?_drop]
      congr 2
      omega
theorem said_len {ps : Ps} {p : Pt} (h : fitB ps p = true) (h1 : Piece p) : (said ps p).length = p.len.toNat := by
  unfold fitB at h
  unfold said
  rw [List.length_take, List.length_drop]
  have := of_decide_eq_true h
  obtain ⟨a1, a2, a3, a4, a5, a6⟩ := h1
  omega
theorem said_get {ps : Ps} {p : Pt} (h : fitB ps p = true) (h1 : Piece p) {j : Nat} (hj : (j : Int) < p.len) : (said ps p).getD j 0 = (txt ps p.ch).getD (p.pos + j).toNat 0 := by
  obtain ⟨a1, a2, a3, a4, a5, a6⟩ := h1
  unfold said
  simp only [List.getD_eq_getElem?_getD]
  rw [List.getElem?_take_of_lt (by omega), List.getElem?_drop]
  congr 2
  omega
theorem fill_says {ps : Ps} {off last size : Int} {l : List Pt} (hok : okB last size l = true) (hfit : ∀ p ∈ l, fitB ps p = true) (h0 : off ≤ last) {N : Nat} (hN : ∀ p ∈ l, p.off + p.len ≤ off + N) (acc : List Nat) (hacc : acc.length = N) :
    (fillP ps off l acc).length = N ∧ ∀ j, j < N → (fillP ps off l acc).getD j 0 = byteOr ps l (off + j) (acc.getD j 0) := by
  induction l generalizing last acc with
  | nil => exact ⟨hacc, fun j _ => rfl⟩
  | cons p l ih =>
    obtain ⟨h1, h2, h3, h4⟩ := okB_cons.1 hok
    have hf := hfit p (List.mem_cons_self ..)
    have hn := hN p (List.mem_cons_self ..)
    have hsl := said_len hf h1
    have h5 := h1.1
    have hfits : (p.off - off).toNat + (said ps p).length ≤ acc.length := by rw [hsl, hacc]; omega
    obtain ⟨i1, i2⟩ := ih h4 (fun q hq => hfit q (List.mem_cons_of_mem _ hq)) (by omega) (fun q hq => hN q (List.mem_cons_of_mem _ hq)) (splice acc (p.off - off).toNat (said ps p)) (by rw [length_splice _ _ _ hfits, hacc])
    refine ⟨i1, fun j hj => ?_⟩
    have e := i2 j hj
    show (fillP ps off l (splice acc (p.off - off).toNat (said ps p))).getD j 0 = _
    rw [e, getD_splice _ _ _ _ hfits, hsl]
    show _ = (if p.off ≤ off + j ∧ off + j < p.off + p.len then (txt ps p.ch).getD (p.pos + (off + j - p.off)).toNat 0 else byteOr ps l (off + j) (acc.getD j 0))
    by_cases hc : p.off ≤ off + j ∧ off + j < p.off + p.len
    · rw [if_pos hc, byteOr_low h4 hc.2, if_pos (by omega), said_get hf h1 (by omega)]
      congr 2
      omega
    · rw [if_neg hc, if_neg (by omega)]
/-- The bytes from off on, n of them. -/
def span (ps : Ps) (b : List Pt) (off : Int) (n : Nat) : List Nat := (List.range n).map fun j : Nat => byteOr ps b (off + j) 0
theorem fit_cut {ps : Ps} {p : Pt} {off : Int} (h : fitB ps p = true) : fitB ps (cut p off) = true := by
  have := of_decide_eq_true h
  exact decide_eq_true (by show p.pos + min p.len (off - p.off) ≤ ((txt ps p.ch).length : Int); omega)
theorem fit_rest {ps : Ps} {p : Pt} {off : Int} (h : fitB ps p = true) : fitB ps (rest p off) = true := by
  have := of_decide_eq_true h
  exact decide_eq_true (by show p.pos + max 0 (off - p.off) + (p.len - max 0 (off - p.off)) ≤ ((txt ps p.ch).length : Int); omega)
theorem fit_ahead {ps : Ps} {l : List Pt} (h : ∀ p ∈ l, fitB ps p = true) (off : Int) : ∀ p ∈ ahead off l, fitB ps p = true := by
  induction l with
  | nil => simp [ahead]
  | cons p l ih =>
    unfold ahead
    split
    · simp
    · intro q hq
      rcases List.mem_cons.1 hq with rfl | hq
      · exact fit_cut (h p (List.mem_cons_self ..))
      · exact ih (fun q hq => h q (List.mem_cons_of_mem _ hq)) q hq
theorem fit_behind {ps : Ps} {l : List Pt} (h : ∀ p ∈ l, fitB ps p = true) (off : Int) : ∀ p ∈ behind off l, fitB ps p = true := by
  induction l with
  | nil => simp [behind]
  | cons p l ih =>
    unfold behind
    split
    · exact ih (fun q hq => h q (List.mem_cons_of_mem _ hq))
    · intro q hq
      rcases List.mem_cons.1 hq with rfl | hq
      · exact fit_rest (h p (List.mem_cons_self ..))
      · exact ih (fun q hq => h q (List.mem_cons_of_mem _ hq)) q hq
theorem fit_lay {ps : Ps} {l : List Pt} (h : ∀ p ∈ l, fitB ps p = true) (off : Int) : ∀ p ∈ lay off l, fitB ps p = true := by
  induction l generalizing off with
  | nil => simp [lay]
  | cons p l ih =>
    unfold lay
    intro q hq
    rcases List.mem_cons.1 hq with rfl | hq
    · exact h p (List.mem_cons_self ..)
    · exact ih (fun q hq => h q (List.mem_cons_of_mem _ hq)) _ q hq
theorem read_list {ps : Ps} {size : Int} {b : List Pt} (hb : mayB size b = true) (hf : ∀ p ∈ b, fitB ps p = true) {off k : Int} (h0 : 0 ≤ off) (h1 : 0 ≤ k) (h2 : k ≤ 4096) :
    readB ps size b off k = (if size ≤ off then [] else span ps b off (min (off + k) size - off).toNat, 0) := by
  by_cases hs : size ≤ off
  · rw [readB_far ⟨h0, h1, h2, hb⟩ hs, if_pos hs]
  · rw [readB_near ⟨h0, h1, h2, hb⟩ hs, if_neg hs]
    obtain ⟨a1, a2, a3⟩ := mayB_iff.1 hb
    obtain ⟨to, hto⟩ : ∃ to, min (off + k) size = to := ⟨_, rfl⟩
    rw [hto]
    have ht1 : to ≤ size := by omega
    have ht0 : off ≤ to := by omega
    have hfa := fit_ahead (fit_behind hf off) to
    rw [if_pos (List.all_eq_true.2 hfa)]
    have hbh := behind_ok (off := off) a3 (Int.le_refl _)
    have hpp := read_parts (off := off) hb h0 ht1
    have hal : okB (max 0 off) (max size (max to (max 0 off))) (ahead to (behind off b)) = true := by
      have h := ahead_ok (r := []) (S := max size (max to (max 0 off))) hbh (by omega : max 0 off ≤ to) rfl (by omega) (by omega)
      rw [List.append_nil] at h
      exact h
    obtain ⟨N, hN⟩ : ∃ N : Nat, (to - off).toNat = N := ⟨_, rfl⟩
    rw [hN]
    obtain ⟨l1, l2⟩ := fill_says hal hfa (by omega : off ≤ max 0 off) (N := N) (fun p hp => by have := (hpp p hp).2.2; omega) (List.replicate N 0) (by simp)
    congr 1
    unfold span
    refine List.ext_getElem (by rw [l1]; simp) (fun j hj1 hj2 => ?_)
    have hjN : j < N := by rw [l1] at hj1; exact hj1
    have e := l2 j hjN
    rw [List.getD_eq_getElem?_getD, List.getElem?_eq_getElem hj1] at e
    simp only [Option.getD_some] at e
    rw [e, byteOr_ahead hbh (by omega), byteOr_behind a3 (by omega)]
    simp [List.getD_eq_getElem?_getD, hjN]
theorem span_app (ps : Ps) (b : List Pt) (off : Int) (n m : Nat) : span ps b off n ++ span ps b (off + n) m = span ps b off (n + m) := by
  unfold span
  rw [List.range_add, List.map_append, List.map_map]
  congr 1
  apply List.map_congr_left
  intro j _
  simp only [Function.comp]
  congr 1
  push_cast
  omega
theorem read_join {ps : Ps} {size : Int} {b : List Pt} (hb : mayB size b = true) (hf : ∀ p ∈ b, fitB ps p = true) {off k m : Int} (h0 : 0 ≤ off) (h1 : 0 ≤ k) (h2 : k ≤ 1000) (h3 : 0 ≤ m) (h4 : m ≤ 1000) :
    (readB ps size b off k).2 = 0 ∧ (readB ps size b (off + k) m).2 = 0 ∧ (readB ps size b off (k + m)).2 = 0 ∧ (readB ps size b off k).1 ++ (readB ps size b (off + k) m).1 = (readB ps size b off (k + m)).1 := by
  rw [read_list hb hf h0 h1 (by omega), read_list hb hf (by omega : 0 ≤ off + k) h3 (by omega), read_list hb hf h0 (by omega : 0 ≤ k + m) (by omega)]
  refine ⟨rfl, rfl, rfl, ?_⟩
  show (if size ≤ off then [] else _) ++ (if size ≤ off + k then [] else _) = (if size ≤ off then [] else _)
  by_cases c1 : size ≤ off
  · rw [if_pos c1, if_pos (by omega), if_pos c1]
    rfl
  · rw [if_neg c1, if_neg c1]
    by_cases c2 : size ≤ off + k
    · rw [if_pos c2, List.append_nil]
      congr 1
      omega
    · rw [if_neg c2]
      have e1 : (min (off + k) size - off).toNat = k.toNat := by omega
      have e2 : off + k = off + (k.toNat : Int) := by omega
      rw [e1]
      conv => lhs; rw [e2]
      rw [span_app]
      congr 1
      omega
theorem strOf_app (a b : List Nat) : strOf (a ++ b) = strOf a ++ strOf b := by
  unfold strOf
  apply ByteArray.ext
  simp
end Go.Proofs.Ytccahhehbpahoaa
