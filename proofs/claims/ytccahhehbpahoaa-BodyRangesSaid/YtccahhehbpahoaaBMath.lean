/- A body's parts as plain mathematics: which may be, what is written, cut, read. No condition. -/
namespace Go.Proofs.Ytccahhehbpahoaa
/-- A part: off, len, chunk, at. -/
structure Pt where
  off : Int
  len : Int
  ch : Int
  pos : Int
def pt0 : Pt := ⟨0, 0, 0, 0⟩
def Piece (p : Pt) : Prop := 1 ≤ p.len ∧ p.len ≤ 64 ∧ 1 ≤ p.ch ∧ p.ch ≤ 4611686018427387904 ∧ 0 ≤ p.pos ∧ p.pos ≤ 64 - p.len
def pieceB (p : Pt) : Bool := decide (1 ≤ p.len) && (decide (p.len ≤ 64) && (decide (1 ≤ p.ch) && (decide (p.ch ≤ 4611686018427387904) && (decide (0 ≤ p.pos) && decide (p.pos ≤ 64 - p.len)))))
theorem pieceB_iff (p : Pt) : pieceB p = true ↔ Piece p := by simp [pieceB, Piece]
def okB (last size : Int) : List Pt → Bool
  | [] => true
  | p :: ps => pieceB p && (decide (last ≤ p.off) && (decide (p.off ≤ size - p.len) && okB (p.off + p.len) size ps))
theorem okB_cons {last size : Int} {p : Pt} {ps : List Pt} : okB last size (p :: ps) = true ↔ Piece p ∧ last ≤ p.off ∧ p.off + p.len ≤ size ∧ okB (p.off + p.len) size ps = true := by
  simp only [okB, Bool.and_eq_true, decide_eq_true_eq, pieceB_iff]
  constructor
  · rintro ⟨a, b, c, d⟩; exact ⟨a, b, by omega, d⟩
  · rintro ⟨a, b, c, d⟩; exact ⟨a, b, by omega, d⟩
def mayB (size : Int) (l : List Pt) : Bool := decide (0 ≤ size) && (decide (size ≤ 1099511627776) && okB 0 size l)
theorem mayB_iff {size : Int} {l : List Pt} : mayB size l = true ↔ 0 ≤ size ∧ size ≤ 1099511627776 ∧ okB 0 size l = true := by simp [mayB]
def cut (p : Pt) (off : Int) : Pt := ⟨p.off, min p.len (off - p.off), p.ch, p.pos⟩
def ahead (off : Int) : List Pt → List Pt
  | [] => []
  | p :: ps => if off ≤ p.off then [] else cut p off :: ahead off ps
def rest (p : Pt) (off : Int) : Pt := ⟨p.off + max 0 (off - p.off), p.len - max 0 (off - p.off), p.ch, p.pos + max 0 (off - p.off)⟩
def behind (off : Int) : List Pt → List Pt
  | [] => []
  | p :: ps => if p.off + p.len ≤ off then behind off ps else rest p off :: behind off ps
def lay (off : Int) : List Pt → List Pt
  | [] => []
  | p :: ps => ⟨off, p.len, p.ch, p.pos⟩ :: lay (off + p.len) ps
def lenP : List Pt → Int
  | [] => 0
  | p :: ps => p.len + lenP ps
/-- The document's own. -/
def wout (a b : Int) : List Pt → List Pt
  | [] => []
  | p :: ps => (if p.off < a then [⟨p.off, min (p.off + p.len) a - p.off, p.ch, p.pos⟩] else []) ++ ((if b < p.off + p.len then [⟨max p.off b, p.off + p.len - max p.off b, p.ch, p.pos + (max p.off b - p.off)⟩] else []) ++ wout a b ps)
def lows (off : Int) (l : List Pt) : List Pt := l.takeWhile fun p => decide (p.off < off)
def highs (off : Int) (l : List Pt) : List Pt := l.filter fun p => decide (off ≤ p.off)
/-- What Write answers: size, parts, the error's number. -/
def writeB (size : Int) (b : List Pt) (off : Int) (l : List Pt) : Int × List Pt × Nat :=
  if mayB size b = true ∧ l.all pieceB = true then
    if 0 ≤ off ∧ off ≤ 1099511627776 - lenP l then
      if l = [] then (size, b, 0) else (max size (off + lenP l), ahead off b ++ (lay off l ++ behind (off + lenP l) b), 0)
    else (0, [], 9)
  else (0, [], 1)
def truncB (size : Int) (b : List Pt) (n : Int) : Int × List Pt × Nat :=
  if mayB size b = true then if 0 ≤ n ∧ n ≤ 1099511627776 then (n, ahead n b, 0) else (0, [], 9) else (0, [], 1)

/-! ### What may be -/
theorem okB_low {last last' size : Int} {l : List Pt} (h : okB last size l = true) (hl : last' ≤ last) : okB last' size l = true := by
  cases l with
  | nil => rfl
  | cons p ps =>
    obtain ⟨a, b, c, d⟩ := okB_cons.1 h
    exact okB_cons.2 ⟨a, by omega, c, d⟩
theorem okB_high {last size size' : Int} {l : List Pt} (h : okB last size l = true) (hl : size ≤ size') : okB last size' l = true := by
  induction l generalizing last with
  | nil => rfl
  | cons p ps ih =>
    obtain ⟨a, b, c, d⟩ := okB_cons.1 h
    exact okB_cons.2 ⟨a, b, by omega, ih d⟩
theorem okB_mem {last size : Int} {l : List Pt} (h : okB last size l = true) {p : Pt} (hp : p ∈ l) : Piece p ∧ last ≤ p.off ∧ p.off + p.len ≤ size := by
  induction l generalizing last with
  | nil => simp at hp
  | cons q ps ih =>
    obtain ⟨a, b, c, d⟩ := okB_cons.1 h
    rcases List.mem_cons.1 hp with rfl | hp
    · exact ⟨a, b, c⟩
    · obtain ⟨e, f, g⟩ := ih d hp
      exact ⟨e, by have := a.1; omega, g⟩
theorem ahead_nil {off size : Int} {l : List Pt} (h : okB off size l = true) : ahead off l = [] := by
  cases l with
  | nil => rfl
  | cons p ps => simp [ahead, (okB_cons.1 h).2.1]
theorem ahead_ok {last size off S : Int} {l r : List Pt} (h : okB last size l = true) (hl : last ≤ off) (hr : okB off S r = true) (hS : size ≤ S) (ho : off ≤ S) : okB last S (ahead off l ++ r) = true := by
  induction l generalizing last with
  | nil => exact okB_low hr hl
  | cons p ps ih =>
    obtain ⟨a, b, c, d⟩ := okB_cons.1 h
    unfold ahead
    by_cases hp : off ≤ p.off
    · rw [if_pos hp]; exact okB_low hr hl
    · rw [if_neg hp, List.cons_append]
      obtain ⟨a1, a2, a3, a4, a5, a6⟩ := a
      refine okB_cons.2 ⟨⟨?_, ?_, a3, a4, a5, ?_⟩, b, ?_, ?_⟩
      · show 1 ≤ min p.len (off - p.off); omega
      · show min p.len (off - p.off) ≤ 64; omega
      · show p.pos ≤ 64 - min p.len (off - p.off); omega
      · show p.off + min p.len (off - p.off) ≤ S; omega
      · show okB (p.off + min p.len (off - p.off)) S _ = true
        by_cases he : p.off + p.len ≤ off
        · rw [show min p.len (off - p.off) = p.len by omega]
          exact ih d he
        · rw [ahead_nil (okB_low d (by omega : off ≤ p.off + p.len)), List.nil_append]
          exact okB_low hr (by omega)
theorem behind_ok {last size off S : Int} {l : List Pt} (h : okB last size l = true) (hS : size ≤ S) : okB (max last off) S (behind off l) = true := by
  induction l generalizing last with
  | nil => rfl
  | cons p ps ih =>
    obtain ⟨a, b, c, d⟩ := okB_cons.1 h
    unfold behind
    by_cases hp : p.off + p.len ≤ off
    · rw [if_pos hp]
      have := ih d
      have h1 := a.1
      exact okB_low this (by omega)
    · rw [if_neg hp]
      obtain ⟨a1, a2, a3, a4, a5, a6⟩ := a
      refine okB_cons.2 ⟨⟨?_, ?_, a3, a4, ?_, ?_⟩, ?_, ?_, ?_⟩
      · show 1 ≤ p.len - max 0 (off - p.off); omega
      · show p.len - max 0 (off - p.off) ≤ 64; omega
      · show 0 ≤ p.pos + max 0 (off - p.off); omega
      · show p.pos + max 0 (off - p.off) ≤ 64 - (p.len - max 0 (off - p.off)); omega
      · show max last off ≤ p.off + max 0 (off - p.off); omega
      · show p.off + max 0 (off - p.off) + (p.len - max 0 (off - p.off)) ≤ S; omega
      · show okB (p.off + max 0 (off - p.off) + (p.len - max 0 (off - p.off))) S _ = true
        have := ih d
        exact okB_low this (by omega)
theorem lenP_nonneg {l : List Pt} (h : l.all pieceB = true) : (l.length : Int) ≤ lenP l := by
  induction l with
  | nil => exact Int.le_refl _
  | cons p ps ih =>
    rw [List.all_cons, Bool.and_eq_true] at h
    have h1 := (pieceB_iff p).1 h.1
    have := ih h.2
    have h2 := h1.1
    show ((ps.length + 1 : Nat) : Int) ≤ p.len + lenP ps
    omega
theorem lay_ok {off S : Int} {l r : List Pt} (h : l.all pieceB = true) (hr : okB (off + lenP l) S r = true) (ho : off + lenP l ≤ S) : okB off S (lay off l ++ r) = true := by
  induction l generalizing off with
  | nil => simpa [lenP, lay] using hr
  | cons p ps ih =>
    rw [List.all_cons, Bool.and_eq_true] at h
    have h1 := (pieceB_iff p).1 h.1
    have hn := lenP_nonneg h.2
    have e : off + lenP (p :: ps) = off + p.len + lenP ps := by show off + (p.len + lenP ps) = _; omega
    rw [e] at hr ho
    unfold lay
    rw [List.cons_append]
    exact okB_cons.2 ⟨h1, Int.le_refl _, by show off + p.len ≤ S; omega, ih h.2 hr ho⟩
theorem write_ok {size off : Int} {b l : List Pt} (hb : mayB size b = true) (hl : l.all pieceB = true) (h0 : 0 ≤ off) (h1 : off ≤ 1099511627776 - lenP l) : mayB (max size (off + lenP l)) (ahead off b ++ (lay off l ++ behind (off + lenP l) b)) = true := by
  obtain ⟨a, b', c⟩ := mayB_iff.1 hb
  have hn := lenP_nonneg hl
  refine mayB_iff.2 ⟨by omega, by omega, ahead_ok c h0 (lay_ok hl ?_ (by omega)) (by omega) (by omega)⟩
  exact okB_low (behind_ok c (by omega)) (by omega)
theorem writeB_ok {size off : Int} {b l : List Pt} (h : (writeB size b off l).2.2 = 0) : mayB (writeB size b off l).1 (writeB size b off l).2.1 = true := by
  unfold writeB at h ⊢
  split at h
  · next h1 =>
    rw [if_pos h1]
    split at h
    · next h2 =>
      rw [if_pos h2]
      split
      · exact h1.1
      · exact write_ok h1.1 h1.2 h2.1 h2.2
    · simp at h
  · simp at h
theorem trunc_ok {size n : Int} {b : List Pt} (hb : mayB size b = true) (h0 : 0 ≤ n) (h1 : n ≤ 1099511627776) : mayB n (ahead n b) = true := by
  obtain ⟨a, b', c⟩ := mayB_iff.1 hb
  refine mayB_iff.2 ⟨h0, h1, ?_⟩
  clear a b' hb h1
  generalize (0 : Int) = last at c h0
  induction b generalizing last with
  | nil => rfl
  | cons p ps ih =>
    obtain ⟨a, b, c, d⟩ := okB_cons.1 c
    unfold ahead
    by_cases hp : n ≤ p.off
    · rw [if_pos hp]; rfl
    · rw [if_neg hp]
      obtain ⟨a1, a2, a3, a4, a5, a6⟩ := a
      refine okB_cons.2 ⟨⟨?_, ?_, a3, a4, a5, ?_⟩, b, ?_, ?_⟩
      · show 1 ≤ min p.len (n - p.off); omega
      · show min p.len (n - p.off) ≤ 64; omega
      · show p.pos ≤ 64 - min p.len (n - p.off); omega
      · show p.off + min p.len (n - p.off) ≤ n; omega
      · show okB (p.off + min p.len (n - p.off)) n _ = true
        by_cases he : p.off + p.len ≤ n
        · rw [show min p.len (n - p.off) = p.len by omega]
          exact ih _ d he
        · rw [ahead_nil (okB_low d (by omega : n ≤ p.off + p.len))]
          rfl
theorem truncB_ok {size n : Int} {b : List Pt} (h : (truncB size b n).2.2 = 0) : mayB (truncB size b n).1 (truncB size b n).2.1 = true := by
  unfold truncB at h ⊢
  split at h
  · next h1 =>
    rw [if_pos h1]
    split at h
    · next h2 =>
      rw [if_pos h2]
      exact trunc_ok h1 h2.1 h2.2
    · simp at h
  · simp at h

/-! ### The document's own -/
theorem wout_off {a b last size : Int} {l : List Pt} (h : okB last size l = true) (ha : a ≤ last) : lows a (wout a b l) = [] := by
  induction l generalizing last with
  | nil => rfl
  | cons p ps ih =>
    obtain ⟨h1, h2, h3, h4⟩ := okB_cons.1 h
    have h5 := h1.1
    unfold wout
    rw [if_neg (by omega), List.nil_append]
    by_cases hb : b < p.off + p.len
    · rw [if_pos hb]
      unfold lows
      rw [List.singleton_append, List.takeWhile_cons_of_neg]
      simp
      omega
    · rw [if_neg hb, List.nil_append]
      exact ih h4 (by omega)
theorem wout_low {a b last size : Int} {l : List Pt} (h : okB last size l = true) (hab : a ≤ b) : lows a (wout a b l) = ahead a l := by
  induction l generalizing last with
  | nil => rfl
  | cons p ps ih =>
    obtain ⟨h1, h2, h3, h4⟩ := okB_cons.1 h
    have h5 := h1.1
    unfold ahead
    by_cases hp : a ≤ p.off
    · rw [if_pos hp]
      exact wout_off (last := p.off) (size := size) (okB_cons.2 ⟨h1, Int.le_refl _, h3, h4⟩) hp
    · rw [if_neg hp]
      unfold wout
      rw [if_pos (by omega), List.singleton_append]
      unfold lows
      rw [List.takeWhile_cons_of_pos (by simp; omega)]
      congr 1
      · unfold cut
        congr 1
        omega
      · by_cases hb : b < p.off + p.len
        · rw [if_pos hb, List.singleton_append, List.takeWhile_cons_of_neg (by simp; omega), ahead_nil (okB_low h4 (by omega))]
        · rw [if_neg hb, List.nil_append]
          exact ih h4
theorem wout_high {a b last size : Int} {l : List Pt} (h : okB last size l = true) (hab : a ≤ b) : highs a (wout a b l) = behind b l := by
  induction l generalizing last with
  | nil => rfl
  | cons p ps ih =>
    obtain ⟨h1, h2, h3, h4⟩ := okB_cons.1 h
    have h5 := h1.1
    unfold behind wout highs
    rw [List.filter_append, List.filter_append]
    have e1 : List.filter (fun p => decide (a ≤ p.off)) (if p.off < a then [(⟨p.off, min (p.off + p.len) a - p.off, p.ch, p.pos⟩ : Pt)] else []) = [] := by
      by_cases hp : p.off < a
      · rw [if_pos hp]; simp; omega
      · rw [if_neg hp]; rfl
    rw [e1, List.nil_append]
    have e2 := ih h4
    unfold highs at e2
    rw [e2]
    by_cases hb : b < p.off + p.len
    · rw [if_pos hb, if_neg (by omega), List.filter_cons_of_pos (by simp; omega), List.filter_nil, List.singleton_append]
      congr 1
      unfold rest
      congr 1 <;> omega
    · rw [if_neg hb, if_pos (by omega)]
      rfl
theorem wout_cut {a b last size : Int} {l : List Pt} (h : okB last size l = true) (hb : size ≤ b) : wout a b l = ahead a l := by
  induction l generalizing last with
  | nil => rfl
  | cons p ps ih =>
    obtain ⟨h1, h2, h3, h4⟩ := okB_cons.1 h
    have h5 := h1.1
    unfold ahead wout
    rw [if_neg (by omega : ¬ b < p.off + p.len), List.nil_append, ih h4]
    by_cases hp : a ≤ p.off
    · rw [if_pos hp, if_neg (by omega), ahead_nil (okB_low h4 (by omega))]
      rfl
    · rw [if_neg hp, if_pos (by omega), List.singleton_append]
      congr 1
      unfold cut
      congr 1
      omega

/-! ### Written twice -/
theorem ahead_end {off : Int} {last size : Int} {l : List Pt} (h : okB last size l = true) : ∀ p ∈ ahead off l, p.off < off ∧ p.off + p.len ≤ off := by
  induction l generalizing last with
  | nil => simp [ahead]
  | cons p ps ih =>
    obtain ⟨h1, h2, h3, h4⟩ := okB_cons.1 h
    unfold ahead
    split
    · simp
    · intro q hq
      rcases List.mem_cons.1 hq with rfl | hq
      · show p.off < off ∧ p.off + min p.len (off - p.off) ≤ off
        omega
      · exact ih h4 q hq
theorem ahead_fix {off : Int} {a r : List Pt} (h : ∀ p ∈ a, p.off < off ∧ p.off + p.len ≤ off) : ahead off (a ++ r) = a ++ ahead off r := by
  induction a with
  | nil => rfl
  | cons p ps ih =>
    have h1 := h p (List.mem_cons_self ..)
    rw [List.cons_append]
    show (if off ≤ p.off then [] else cut p off :: ahead off (ps ++ r)) = _
    rw [if_neg (by omega), ih (fun q hq => h q (List.mem_cons_of_mem _ hq)), List.cons_append]
    congr 1
    unfold cut
    rw [show min p.len (off - p.off) = p.len by omega]
theorem ahead_all {off last size : Int} {l : List Pt} (h : okB last size l = true) (ho : size ≤ off) : ahead off l = l := by
  have := ahead_fix (off := off) (a := l) (r := []) (fun p hp => by obtain ⟨a, b, c⟩ := okB_mem h hp; have := a.1; omega)
  rw [List.append_nil] at this
  rw [this]
  simp [ahead]
theorem behind_skip {off : Int} {a r : List Pt} (h : ∀ p ∈ a, p.off + p.len ≤ off) : behind off (a ++ r) = behind off r := by
  induction a with
  | nil => rfl
  | cons p ps ih =>
    rw [List.cons_append]
    show (if p.off + p.len ≤ off then behind off (ps ++ r) else _) = _
    rw [if_pos (h p (List.mem_cons_self ..)), ih (fun q hq => h q (List.mem_cons_of_mem _ hq))]
theorem behind_fix {off size : Int} {l : List Pt} (h : okB off size l = true) : behind off l = l := by
  have : ∀ last, off ≤ last → okB last size l = true → behind off l = l := by
    clear h
    induction l with
    | nil => intros; rfl
    | cons p ps ih =>
      intro last hl h
      obtain ⟨h1, h2, h3, h4⟩ := okB_cons.1 h
      have h5 := h1.1
      unfold behind
      rw [if_neg (by omega), ih _ (by omega) h4]
      congr 1
      unfold rest
      rw [show max 0 (off - p.off) = 0 by omega]
      simp
  exact this off (Int.le_refl _) h
theorem lay_end {off : Int} {l : List Pt} (h : l.all pieceB = true) : ∀ p ∈ lay off l, off ≤ p.off ∧ p.off + p.len ≤ off + lenP l := by
  induction l generalizing off with
  | nil => simp [lay]
  | cons p ps ih =>
    rw [List.all_cons, Bool.and_eq_true] at h
    have h1 := (pieceB_iff p).1 h.1
    have hn := lenP_nonneg h.2
    have h2 := h1.1
    have e : lenP (p :: ps) = p.len + lenP ps := rfl
    intro q hq
    unfold lay at hq
    rcases List.mem_cons.1 hq with rfl | hq
    · show off ≤ off ∧ off + p.len ≤ _
      omega
    · have := ih h.2 q hq
      omega
theorem write_twice {size off : Int} {b l : List Pt} (hb : mayB size b = true) (hl : l.all pieceB = true) :
    ahead off (ahead off b ++ (lay off l ++ behind (off + lenP l) b)) = ahead off b ∧ behind (off + lenP l) (ahead off b ++ (lay off l ++ behind (off + lenP l) b)) = behind (off + lenP l) b := by
  obtain ⟨a, b', c⟩ := mayB_iff.1 hb
  have hn := lenP_nonneg hl
  have hB : okB (off + lenP l) (max size (off + lenP l)) (behind (off + lenP l) b) = true := okB_low (behind_ok c (by omega)) (by omega)
  constructor
  · rw [ahead_fix (ahead_end c), ahead_nil (lay_ok hl hB (by omega)), List.append_nil]
  · rw [behind_skip (fun p hp => by have := ahead_end c p hp; omega), behind_skip (fun p hp => (lay_end hl p hp).2), behind_fix hB]
theorem writeB_twice {size off : Int} {b l : List Pt} (h : (writeB size b off l).2.2 = 0) : writeB (writeB size b off l).1 (writeB size b off l).2.1 off l = writeB size b off l := by
  have hok := writeB_ok h
  unfold writeB at h
  split at h
  · next h1 =>
    split at h
    · next h2 =>
      have e : writeB size b off l = if l = [] then (size, b, 0) else (max size (off + lenP l), ahead off b ++ (lay off l ++ behind (off + lenP l) b), 0) := by
        unfold writeB
        rw [if_pos h1, if_pos h2]
      rw [e] at hok ⊢
      unfold writeB
      rw [if_pos ⟨hok, h1.2⟩, if_pos h2]
      by_cases hl : l = []
      · rw [if_pos hl, if_pos hl]
      · obtain ⟨e1, e2⟩ := write_twice h1.1 h1.2
        rw [if_neg hl, if_neg hl]
        show (max (max size (off + lenP l)) (off + lenP l), ahead off (ahead off b ++ (lay off l ++ behind (off + lenP l) b)) ++ (lay off l ++ behind (off + lenP l) (ahead off b ++ (lay off l ++ behind (off + lenP l) b))), 0) = _
        rw [e1, e2, show max (max size (off + lenP l)) (off + lenP l) = max size (off + lenP l) by omega]
    · simp at h
  · simp at h
theorem truncB_same {size : Int} {b : List Pt} (h : mayB size b = true) : truncB size b size = (size, b, 0) := by
  obtain ⟨a, b', c⟩ := mayB_iff.1 h
  unfold truncB
  rw [if_pos h, if_pos ⟨a, b'⟩, ahead_all c (Int.le_refl _)]
end Go.Proofs.Ytccahhehbpahoaa
