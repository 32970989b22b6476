/- Pieces as plain mathematics: the hash of the last eight bytes, where a piece ends, all pieces; that none of them hangs on what stands ahead. No condition. -/
namespace Go.Proofs.Ytjjhaohgbhekhaa
def st (h x : Nat) : Nat := (31 * h + x + 1) % 4294967296
def hs (t : List Nat) : Nat := t.foldl st 0
def win (l : List Nat) (i : Nat) : List Nat := (l.take (i + 1)).drop (i - 7)
def hash (l : List Nat) (i : Nat) : Nat := hs (win l i)
def fit (h : Nat) : Bool := h / 65536 % 16 == 0
theorem st_lt (h x : Nat) : st h x < 4294967296 := Nat.mod_lt _ (by decide)
theorem foldl_st (t : List Nat) (h : Nat) : t.foldl st h % 4294967296 = (h * 31 ^ t.length + hs t) % 4294967296 := by
  induction t generalizing h with
  | nil => simp [hs]
  | cons x t ih =>
    have e1 := ih (st h x)
    have e2 := ih (st 0 x)
    simp only [List.foldl_cons, List.length_cons, hs]
    rw [e1, Nat.add_mod (h * 31 ^ (t.length + 1)), e2]
    unfold st hs
    generalize List.foldl _ 0 t = T
    generalize ht : 31 ^ t.length = P
    rw [Nat.pow_succ, ht]
    simp only [Nat.add_mod, Nat.mul_mod, Nat.mod_mod]
    simp only [← Nat.mul_mod, Nat.mod_mod, Nat.add_mod_mod, Nat.mod_add_mod]
    congr 1
    rw [Nat.mul_zero, Nat.zero_add, Nat.add_mul, Nat.add_mul, Nat.add_mul]
    rw [show h * (P * 31) = 31 * h * P by rw [Nat.mul_comm P 31, ← Nat.mul_assoc, Nat.mul_comm h 31]]
    omega
theorem hs_lt (t : List Nat) : hs t < 4294967296 := by
  unfold hs
  have : ∀ (t : List Nat) (h : Nat), h < 4294967296 → t.foldl st h < 4294967296 := by
    intro t
    induction t with
    | nil => exact fun _ h => h
    | cons x t ih => exact fun h _ => ih _ (st_lt h x)
  exact this t 0 (by decide)
theorem hs_cons (x : Nat) (t : List Nat) : hs (x :: t) = (hs t + (x + 1) * (31 ^ t.length % 4294967296)) % 4294967296 := by
  have h := foldl_st t (st 0 x)
  have h2 := hs_lt (x :: t)
  unfold hs at h2 ⊢
  rw [List.foldl_cons] at h2 ⊢
  rw [Nat.mod_eq_of_lt h2] at h
  rw [h]
  unfold hs st
  generalize List.foldl _ 0 t = T
  generalize 31 ^ t.length = P
  rw [Nat.mul_zero, Nat.zero_add, Nat.add_comm T, Nat.add_mod, Nat.add_mod ((x + 1) * _)]
  congr 2
  rw [Nat.mul_mod, Nat.mod_mod, Nat.mul_mod (x + 1), Nat.mod_mod]
theorem hs_take (t : List Nat) (k : Nat) (h : k < t.length) : hs (t.take (k + 1)) = st (hs (t.take k)) (t.getD k 0) := by
  rw [List.take_succ_eq_append_getElem h, hs, List.foldl_append]
  simp [hs, List.getD_eq_getElem?_getD, h]
theorem win_len (l : List Nat) (i : Nat) (h : i < l.length) : (win l i).length = min 8 (i + 1) := by
  unfold win
  rw [List.length_drop, List.length_take]
  omega
theorem hash_lt (l : List Nat) (i : Nat) : hash l i < 4294967296 := hs_lt _
/-- r is where the piece that begins at f ends. -/
structure IsEnd (l : List Nat) (f r : Nat) : Prop where
  lo : f < r
  hi : r ≤ min (f + 64) l.length
  no : ∀ j, f + 7 ≤ j → j + 1 < r → fit (hash l j) = false
  yes : r = min (f + 64) l.length ∨ (f + 8 ≤ r ∧ fit (hash l (r - 1)) = true)
theorem IsEnd.not_lt {l : List Nat} {f r s : Nat} (h : IsEnd l f r) (h2 : IsEnd l f s) : ¬ r < s := fun e => by
  rcases h.yes with e1 | ⟨e1, e2⟩
  · have := h2.hi; omega
  · have := h2.no (r - 1) (by omega) (by omega)
    rw [this] at e2
    cases e2
theorem IsEnd.uniq {l : List Nat} {f r s : Nat} (h : IsEnd l f r) (h2 : IsEnd l f s) : r = s := by
  have := h.not_lt h2
  have := h2.not_lt h
  omega
def srch (l : List Nat) (e : Nat) : Nat → Nat → Nat
  | 0, _ => e
  | k + 1, i => if i < e then (if fit (hash l i) then i + 1 else srch l e k (i + 1)) else e
def ends (l : List Nat) (f : Nat) : Nat := srch l (min (f + 64) l.length) 64 (f + 7)
theorem srch_is (l : List Nat) (f : Nat) (hf : f < l.length) (k i : Nat) (hi : f + 7 ≤ i) (hk : min (f + 64) l.length ≤ i + k) (hn : ∀ j, f + 7 ≤ j → j < i → fit (hash l j) = false) : IsEnd l f (srch l (min (f + 64) l.length) k i) := by
  have hend : (∀ j, f + 7 ≤ j → j + 1 < min (f + 64) l.length → fit (hash l j) = false) → IsEnd l f (min (f + 64) l.length) := fun h => ⟨by omega, Nat.le_refl _, h, .inl rfl⟩
  induction k generalizing i with
  | zero => exact hend (fun j h1 h2 => hn j h1 (by omega))
  | succ k ih =>
    unfold srch
    split
    · next h =>
      cases hh : fit (hash l i) with
      | true => exact ⟨by simp; omega, by simp; omega, fun j h1 h2 => hn j h1 (by simp at h2; omega), .inr ⟨by simp; omega, by simpa using hh⟩⟩
      | false =>
        simp only [Bool.false_eq_true, if_false]
        refine ih (i + 1) (by omega) (by omega) (fun j h1 h2 => ?_)
        by_cases e : j = i
        · rw [e]; exact hh
        · exact hn j h1 (by omega)
    · next h => exact hend (fun j h1 h2 => hn j h1 (by omega))
theorem ends_is (l : List Nat) (f : Nat) (hf : f < l.length) : IsEnd l f (ends l f) := srch_is l f hf 64 (f + 7) (Nat.le_refl _) (by omega) (fun j h1 h2 => by omega)
theorem ends_lo {l : List Nat} {f : Nat} (hf : f < l.length) : f < ends l f := (ends_is l f hf).lo
theorem ends_hi {l : List Nat} {f : Nat} (hf : f < l.length) : ends l f ≤ l.length := by have := (ends_is l f hf).hi; omega
theorem ends_eq {l : List Nat} {f r : Nat} (hf : f < l.length) (h : IsEnd l f r) : ends l f = r := (ends_is l f hf).uniq h
/-! ### What stands ahead -/
theorem win_app (a c : List Nat) (i : Nat) (h : 7 ≤ i) : win (a ++ c) (a.length + i) = win c i := by
  unfold win
  rw [show a.length + i + 1 = a.length + (i + 1) by omega, List.take_length_add_append, show a.length + i - 7 = a.length + (i - 7) by omega, List.drop_length_add_append]
theorem hash_app (a c : List Nat) (i : Nat) (h : 7 ≤ i) : hash (a ++ c) (a.length + i) = hash c i := by unfold hash; rw [win_app a c i h]
theorem end_app (a c : List Nat) (f r : Nat) (h : IsEnd c f r) : IsEnd (a ++ c) (a.length + f) (a.length + r) := by
  have h1 := h.lo
  have h2 := h.hi
  have e : min (a.length + f + 64) (a ++ c).length = a.length + min (f + 64) c.length := by rw [List.length_append]; omega
  refine ⟨by omega, by omega, fun j h3 h4 => ?_, ?_⟩
  · have := h.no (j - a.length) (by omega) (by omega)
    rw [← hash_app a c (j - a.length) (by omega), show a.length + (j - a.length) = j by omega] at this
    exact this
  · rw [e]
    rcases h.yes with h3 | ⟨h3, h4⟩
    · exact .inl (by omega)
    · refine .inr ⟨by omega, ?_⟩
      rw [← hash_app a c (r - 1) (by omega), show a.length + (r - 1) = a.length + r - 1 by omega] at h4
      exact h4
theorem ends_app (a c : List Nat) (f : Nat) (h : f < c.length) : ends (a ++ c) (a.length + f) = a.length + ends c f :=
  ends_eq (by rw [List.length_append]; omega) (end_app a c f _ (ends_is c f h))
/-! ### All pieces -/
def cutF (l : List Nat) : Nat → Nat → List (List Nat)
  | 0, _ => []
  | k + 1, f => if f < l.length then ((l.take (ends l f)).drop f) :: cutF l k (ends l f) else []
def cuts (l : List Nat) : List (List Nat) := cutF l l.length 0
def sumL (ls : List (List Nat)) : Nat := (ls.map List.length).sum
theorem cutF_end (l : List Nat) (k f : Nat) (h : ¬ f < l.length) : cutF l k f = [] := by
  cases k with
  | zero => rfl
  | succ k => simp [cutF, h]
theorem cutF_step (l : List Nat) (k f : Nat) (h : f < l.length) : cutF l (k + 1) f = ((l.take (ends l f)).drop f) :: cutF l k (ends l f) := by simp [cutF, h]
theorem piece_len (l : List Nat) (f : Nat) (h : f < l.length) : ((l.take (ends l f)).drop f).length = ends l f - f := by
  have := ends_hi h
  rw [List.length_drop, List.length_take]
  omega
theorem cutF_sum (l : List Nat) (k f : Nat) (h : l.length ≤ f + k) (hf : f ≤ l.length) : sumL (cutF l k f) = l.length - f := by
  induction k generalizing f with
  | zero => simp [cutF, sumL]; omega
  | succ k ih =>
    by_cases h1 : f < l.length
    · have h2 := ends_lo h1
      have h3 := ends_hi h1
      have e := ih (ends l f) (by omega) h3
      rw [cutF_step l k f h1]
      unfold sumL at e ⊢
      rw [List.map_cons, List.sum_cons, piece_len l f h1, e]
      omega
    · rw [cutF_end l _ f h1]; simp [sumL]; omega
theorem cutF_size (l : List Nat) (k f : Nat) (h : l.length ≤ f + k) : ∀ i, i < (cutF l k f).length → 1 ≤ ((cutF l k f).getD i []).length ∧ ((cutF l k f).getD i []).length ≤ 64 ∧ (i + 1 < (cutF l k f).length → 8 ≤ ((cutF l k f).getD i []).length) := by
  induction k generalizing f with
  | zero => intro i hi; simp [cutF] at hi
  | succ k ih =>
    by_cases h1 : f < l.length
    · have h2 := ends_lo h1
      have h3 := ends_hi h1
      have e := ih (ends l f) (by omega)
      have hp := piece_len l f h1
      have hI := ends_is l f h1
      have hh := hI.hi
      rw [cutF_step l k f h1]
      intro i hi
      cases i with
      | zero =>
        rw [List.getD_cons_zero, hp]
        refine ⟨by omega, by omega, fun hl => ?_⟩
        have h4 : ends l f < l.length := by
          by_cases h5 : ends l f < l.length
          · exact h5
          · rw [cutF_end l k _ h5] at hl; simp at hl
        rcases hI.yes with h5 | h5 <;> omega
      | succ i =>
        rw [List.getD_cons_succ]
        have := e i (by simpa using hi)
        exact ⟨this.1, this.2.1, fun hl => this.2.2 (by simpa using hl)⟩
    · rw [cutF_end l _ f h1]; intro i hi; simp at hi
theorem cutF_ends (l : List Nat) (k f : Nat) (h : l.length ≤ f + k) : ∀ i, i < (cutF l k f).length → f + sumL ((cutF l k f).take i) < l.length ∧ ends l (f + sumL ((cutF l k f).take i)) = f + sumL ((cutF l k f).take i) + ((cutF l k f).getD i []).length := by
  induction k generalizing f with
  | zero => intro i hi; simp [cutF] at hi
  | succ k ih =>
    by_cases h1 : f < l.length
    · have h2 := ends_lo h1
      have e := ih (ends l f) (by omega)
      have hp := piece_len l f h1
      rw [cutF_step l k f h1]
      intro i hi
      cases i with
      | zero =>
        rw [List.getD_cons_zero, hp]
        simp [sumL]
        exact ⟨h1, by omega⟩
      | succ i =>
        rw [List.getD_cons_succ, List.take_succ_cons]
        have := e i (by simpa using hi)
        have es : f + sumL ((l.take (ends l f)).drop f :: (cutF l k (ends l f)).take i) = ends l f + sumL ((cutF l k (ends l f)).take i) := by
          unfold sumL
          rw [List.map_cons, List.sum_cons, hp]
          omega
        rw [es]
        exact this
    · rw [cutF_end l _ f h1]; intro i hi; simp at hi
theorem sum_hi (ls : List (List Nat)) (h : ∀ i, i < ls.length → (ls.getD i []).length ≤ 64) : sumL ls ≤ 64 * ls.length := by
  induction ls with
  | nil => simp [sumL]
  | cons x ls ih =>
    have h0 := h 0 (by simp)
    have e := ih (fun i hi => by have := h (i + 1) (by simpa using hi); rwa [List.getD_cons_succ] at this)
    rw [List.getD_cons_zero] at h0
    unfold sumL at e ⊢
    rw [List.map_cons, List.sum_cons, List.length_cons]
    omega
theorem sum_lo (ls : List (List Nat)) (h : ∀ i, i < ls.length → 1 ≤ (ls.getD i []).length ∧ (i + 1 < ls.length → 8 ≤ (ls.getD i []).length)) : 8 * ls.length ≤ sumL ls + 7 := by
  induction ls with
  | nil => simp [sumL]
  | cons x ls ih =>
    have h0 := h 0 (by simp)
    have e := ih (fun i hi => by
      have := h (i + 1) (by simpa using hi)
      rw [List.getD_cons_succ] at this
      exact ⟨this.1, fun h2 => this.2 (by simpa using h2)⟩)
    rw [List.getD_cons_zero] at h0
    cases ls with
    | nil => simp [sumL] at h0 ⊢; omega
    | cons y ls =>
      have h1 := h0.2 (by simp)
      unfold sumL at e ⊢
      rw [List.map_cons, List.sum_cons, List.length_cons]
      omega
theorem sum_take (ls : List (List Nat)) (i : Nat) (h : i < ls.length) : sumL (ls.take (i + 1)) = sumL (ls.take i) + (ls.getD i []).length := by
  unfold sumL
  rw [List.take_succ_eq_append_getElem h, List.map_append, List.sum_append]
  simp [List.getD_eq_getElem?_getD, h]
theorem cuts_sum (l : List Nat) : sumL (cuts l) = l.length := cutF_sum l l.length 0 (by omega) (by omega)
theorem cuts_size (l : List Nat) : ∀ i, i < (cuts l).length → 1 ≤ ((cuts l).getD i []).length ∧ ((cuts l).getD i []).length ≤ 64 ∧ (i + 1 < (cuts l).length → 8 ≤ ((cuts l).getD i []).length) := cutF_size l l.length 0 (by omega)
theorem cuts_ends (l : List Nat) (i : Nat) (h : i < (cuts l).length) : sumL ((cuts l).take i) < l.length ∧ ends l (sumL ((cuts l).take i)) = sumL ((cuts l).take i) + ((cuts l).getD i []).length := by
  have := cutF_ends l l.length 0 (by omega) i h
  rwa [Nat.zero_add] at this
theorem cuts_many (l : List Nat) : (l.length + 63) / 64 ≤ (cuts l).length ∧ (cuts l).length ≤ (l.length + 7) / 8 := by
  have h1 := sum_hi (cuts l) (fun i hi => (cuts_size l i hi).2.1)
  have h2 := sum_lo (cuts l) (fun i hi => ⟨(cuts_size l i hi).1, (cuts_size l i hi).2.2⟩)
  rw [cuts_sum] at h1 h2
  omega
/-! ### All ends -/
def endF (l : List Nat) : Nat → Nat → List Nat
  | 0, _ => []
  | k + 1, f => if f < l.length then ends l f :: endF l k (ends l f) else []
theorem endF_end (l : List Nat) (k f : Nat) (h : ¬ f < l.length) : endF l k f = [] := by
  cases k with
  | zero => rfl
  | succ k => simp [endF, h]
theorem endF_step (l : List Nat) (k f : Nat) (h : f < l.length) : endF l (k + 1) f = ends l f :: endF l k (ends l f) := by simp [endF, h]
theorem endF_fuel (l : List Nat) (k m f : Nat) (hk : l.length ≤ f + k) (hm : l.length ≤ f + m) : endF l k f = endF l m f := by
  induction k generalizing f m with
  | zero => rw [endF_end l m f (by omega)]; rfl
  | succ k ih =>
    by_cases h : f < l.length
    · obtain ⟨m', rfl⟩ : ∃ m', m = m' + 1 := ⟨m - 1, by omega⟩
      have h2 := ends_lo h
      rw [endF_step l k f h, endF_step l m' f h, ih m' _ (by omega) (by omega)]
    · rw [endF_end l _ f h, endF_end l _ f h]
theorem endF_drop (l : List Nat) (k f : Nat) (hk : l.length ≤ f + k) : ∀ i, i < (endF l k f).length → f < (endF l k f).getD i 0 ∧ (endF l k f).drop (i + 1) = endF l k ((endF l k f).getD i 0) := by
  induction k generalizing f with
  | zero => intro i hi; simp [endF] at hi
  | succ k ih =>
    by_cases h : f < l.length
    · have h2 := ends_lo h
      intro i hi
      cases i with
      | zero =>
        rw [endF_step l k f h, List.getD_cons_zero]
        simp only [Nat.zero_add, List.drop_succ_cons, List.drop_zero]
        exact ⟨h2, endF_fuel l k (k + 1) _ (by omega) (by omega)⟩
      | succ i =>
        rw [endF_step l k f h] at hi ⊢
        rw [List.getD_cons_succ, List.drop_succ_cons]
        have hh := ih (ends l f) (by omega) i (by simpa using hi)
        refine ⟨by omega, ?_⟩
        rw [hh.2]
        exact endF_fuel l k (k + 1) _ (by omega) (by omega)
    · rw [endF_end l _ f h]; intro i hi; simp at hi
theorem endF_app (a c : List Nat) (k f : Nat) : endF (a ++ c) k (a.length + f) = (endF c k f).map (a.length + ·) := by
  induction k generalizing f with
  | zero => rfl
  | succ k ih =>
    by_cases h : f < c.length
    · rw [endF_step _ k _ (by rw [List.length_append]; omega), endF_step c k f h, ends_app a c f h, ih, List.map_cons]
    · rw [endF_end _ _ _ (by rw [List.length_append]; omega), endF_end c _ f h]; rfl
theorem endF_last (l : List Nat) (k f : Nat) (hk : l.length ≤ f + k) (h : f < l.length) : 1 ≤ (endF l k f).length ∧ (endF l k f).getD ((endF l k f).length - 1) 0 = l.length := by
  induction k generalizing f with
  | zero => omega
  | succ k ih =>
    have h2 := ends_lo h
    have h3 := ends_hi h
    rw [endF_step l k f h]
    refine ⟨by simp, ?_⟩
    by_cases h4 : ends l f < l.length
    · obtain ⟨h5, h6⟩ := ih (ends l f) (by omega) h4
      rw [List.length_cons, Nat.add_sub_cancel]
      obtain ⟨n, hn⟩ : ∃ n, (endF l k (ends l f)).length = n + 1 := ⟨_, (Nat.sub_add_cancel h5).symm⟩
      rw [hn, List.getD_cons_succ]
      rw [hn, Nat.add_sub_cancel] at h6
      exact h6
    · rw [endF_end l k _ h4]
      simp
      omega
def endL (l : List Nat) : List Nat := endF l l.length 0
/-- Ends that both have, as numbers behind what stands ahead. -/
def endZ (l : List Nat) (n : Nat) : List Int := (endL l).map fun e : Nat => (e : Int) - (n : Int)
theorem endZ_len (l : List Nat) (n : Nat) : (endZ l n).length = (endL l).length := by simp [endZ]
theorem endZ_drop (a c : List Nat) (i : Nat) (hi : i < (endZ (a ++ c) a.length).length) (t : Nat) (ht : (endZ (a ++ c) a.length).getD i 0 = (t : Int)) :
    (endZ (a ++ c) a.length).drop (i + 1) = (endF c (c.length) t).map fun e : Nat => (e : Int) := by
  rw [endZ_len] at hi
  have h1 := (endF_drop (a ++ c) (a ++ c).length 0 (by omega) i hi).2
  have hv : (endL (a ++ c)).getD i 0 = a.length + t := by
    simp only [endZ, List.getD_eq_getElem?_getD, List.getElem?_map, List.getElem?_eq_getElem hi, Option.map_some, Option.getD_some] at ht
    simp only [List.getD_eq_getElem?_getD, List.getElem?_eq_getElem hi, Option.getD_some]
    omega
  unfold endZ
  rw [← List.map_drop]
  show ((endF (a ++ c) (a ++ c).length 0).drop (i + 1)).map _ = _
  rw [h1]
  have hv2 : (endF (a ++ c) (a ++ c).length 0).getD i 0 = a.length + t := hv
  rw [hv2, endF_app, List.map_map, endF_fuel c _ c.length t (by rw [List.length_append]; omega) (by omega)]
  apply List.map_congr_left
  intro e _
  simp only [Function.comp]
  omega
theorem endZ_last (a c : List Nat) (h : 0 < c.length) : 1 ≤ (endZ (a ++ c) a.length).length ∧ (endZ (a ++ c) a.length).getD ((endZ (a ++ c) a.length).length - 1) 0 = (c.length : Int) := by
  have hl : (a ++ c).length = a.length + c.length := List.length_append
  obtain ⟨h1, h2⟩ := endF_last (a ++ c) (a ++ c).length 0 (by omega) (by omega)
  rw [endZ_len]
  refine ⟨h1, ?_⟩
  have hi : (endL (a ++ c)).length - 1 < (endL (a ++ c)).length := by have : 1 ≤ (endL (a ++ c)).length := h1; omega
  have h2' : (endL (a ++ c)).getD ((endL (a ++ c)).length - 1) 0 = (a ++ c).length := h2
  simp only [List.getD_eq_getElem?_getD, List.getElem?_eq_getElem hi, Option.getD_some] at h2'
  simp only [endZ, List.getD_eq_getElem?_getD, List.getElem?_map, List.getElem?_eq_getElem hi, Option.map_some, Option.getD_some, h2']
  omega
/-- Where both end a piece at one place all that follows is alike. -/
theorem endZ_same (a b c : List Nat) (i j : Nat) (hi : i < (endZ (a ++ c) a.length).length) (hj : j < (endZ (b ++ c) b.length).length) (h : (endZ (a ++ c) a.length).getD i 0 = (endZ (b ++ c) b.length).getD j 0) (h0 : 0 ≤ (endZ (a ++ c) a.length).getD i 0) :
    (endZ (a ++ c) a.length).drop i = (endZ (b ++ c) b.length).drop j := by
  obtain ⟨t, ht⟩ := Int.eq_ofNat_of_zero_le h0
  have e1 := endZ_drop a c i hi t ht
  have e2 := endZ_drop b c j hj t (by rw [← h]; exact ht)
  rw [List.drop_eq_getElem_cons hi, List.drop_eq_getElem_cons hj, e1, e2]
  congr 1
  simpa [List.getD_eq_getElem?_getD, hi, hj] using h
end Go.Proofs.Ytjjhaohgbhekhaa
