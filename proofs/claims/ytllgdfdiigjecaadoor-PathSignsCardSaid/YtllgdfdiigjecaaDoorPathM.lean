/- Paths as plain mathematics: names, parts, what joins them, which lie under which. No condition. -/
import Derived.Lib.SplitLaws
import Derived.Lib.Join
namespace Go.Proofs.YtllgdfdiigjecaaDoor
abbrev Str := List UInt8
def okb (b : UInt8) : Bool := decide (33 ≤ b.toNat) && decide (b.toNat ≤ 126) && !(b == 47)
def nameB (l : Str) : Bool := decide (1 ≤ l.length) && decide (l.length ≤ 16) && !(l == [46]) && !(l == [46, 46]) && l.all okb
def glue (x : Str) : List Str → List Str
  | [] => [x]
  | h :: t => (x ++ h) :: t
def pieces : Str → List Str
  | [] => [[]]
  | b :: r => if b = 47 then [] :: pieces r else glue [b] (pieces r)
def splitP : Str → Option (List Str)
  | [] => none
  | b :: r => if b = 47 ∧ r.length + 1 ≤ 64 then (if r = [] then some [] else if (pieces r).length ≤ 8 ∧ (pieces r).all nameB = true then some (pieces r) else none) else none
theorem splitP_cons (b : UInt8) (r : Str) : splitP (b :: r) = if b = 47 ∧ r.length + 1 ≤ 64 then (if r = [] then some [] else if (pieces r).length ≤ 8 ∧ (pieces r).all nameB = true then some (pieces r) else none) else none := rfl
def joinF (l : List Str) : Str := l.flatMap fun x => 47 :: x
def joinP (l : List Str) : Str := if l = [] then [47] else joinF l
def underP (a b : Str) : Bool :=
  match splitP a, splitP b with
  | some x, some y => decide (y.length < x.length) && (x.take y.length == y)
  | _, _ => false

theorem pieces_ne (s : Str) : ∃ h t, pieces s = h :: t := by
  cases s with
  | nil => exact ⟨_, _, rfl⟩
  | cons b r =>
    unfold pieces
    split
    · exact ⟨_, _, rfl⟩
    · cases pieces r with
      | nil => exact ⟨_, _, rfl⟩
      | cons h t => exact ⟨_, _, rfl⟩
theorem joinF_pieces (r : Str) : joinF (pieces r) = 47 :: r := by
  induction r with
  | nil => rfl
  | cons b r ih =>
    unfold pieces
    split
    · next h => subst h; simp [joinF] at ih ⊢; exact ih
    · obtain ⟨h, t, e⟩ := pieces_ne r
      rw [e] at ih ⊢
      simp [joinF, glue] at ih ⊢
      exact ih
theorem pieces_glue (x s : Str) (hx : ∀ b ∈ x, b ≠ 47) : pieces (x ++ s) = glue x (pieces s) := by
  induction x with
  | nil =>
    obtain ⟨h, t, e⟩ := pieces_ne s
    simp [e, glue]
  | cons b x ih =>
    have hb : b ≠ 47 := hx b (by simp)
    rw [List.cons_append]
    conv => lhs; unfold pieces
    rw [if_neg hb, ih (fun c hc => hx c (by simp [hc]))]
    obtain ⟨h, t, e⟩ := pieces_ne s
    simp [e, glue]
theorem pieces_joinF (x : Str) (t : List Str) (h : ∀ l ∈ x :: t, ∀ b ∈ l, b ≠ 47) : pieces (x ++ joinF t) = x :: t := by
  induction t generalizing x with
  | nil =>
    rw [pieces_glue x _ (h x (by simp))]
    simp [joinF, pieces, glue]
  | cons y t ih =>
    rw [pieces_glue x _ (h x (by simp))]
    have e : joinF (y :: t) = 47 :: (y ++ joinF t) := by simp [joinF]
    rw [e]
    unfold pieces
    rw [if_pos rfl, ih y (fun l hl => h l (by simp at hl ⊢; rcases hl with e | e <;> simp [e]))]
    simp [glue]
theorem okb_ne {b : UInt8} (h : okb b = true) : b ≠ 47 := by
  intro e; subst e; revert h; decide
theorem nameB_ne {l : Str} (h : nameB l = true) : l ≠ [] := by
  intro e; subst e; revert h; decide
theorem nameB_sign {l : Str} (h : nameB l = true) : ∀ b ∈ l, b ≠ 47 := by
  intro b hb
  unfold nameB at h
  simp only [Bool.and_eq_true] at h
  exact okb_ne (List.all_eq_true.1 h.2 b hb)
theorem splitP_nil : splitP [47] = some [] := rfl
theorem splitP_some {s : Str} {l : List Str} (h : splitP s = some l) : joinP l = s ∧ l.length ≤ 8 ∧ (∀ x ∈ l, nameB x = true) ∧ s.length ≤ 64 := by
  cases s with
  | nil => cases h
  | cons b r =>
    rw [splitP_cons] at h
    by_cases hb : b = 47 ∧ r.length + 1 ≤ 64
    · rw [if_pos hb] at h
      obtain ⟨rfl, hlen⟩ := hb
      by_cases hr : r = []
      · rw [if_pos hr] at h; subst hr; cases h; exact ⟨rfl, by simp, by simp, by simp⟩
      · rw [if_neg hr] at h
        by_cases hp : (pieces r).length ≤ 8 ∧ (pieces r).all nameB = true
        · rw [if_pos hp] at h
          cases h
          obtain ⟨x, t, e⟩ := pieces_ne r
          refine ⟨?_, hp.1, List.all_eq_true.1 hp.2, by simpa using hlen⟩
          unfold joinP
          rw [if_neg (by rw [e]; simp), joinF_pieces]
        · rw [if_neg hp] at h; cases h
    · rw [if_neg hb] at h; cases h
theorem joinF_len (l : List Str) : (joinF l).length = (l.map fun x => 1 + x.length).sum := by
  induction l with
  | nil => rfl
  | cons x t ih =>
    simp only [joinF, List.flatMap_cons, List.length_append, List.length_cons, List.map_cons, List.sum_cons] at ih ⊢
    omega
/-- Names joined are split into the names, where there are not too many. -/
theorem splitP_joinP {l : List Str} (h : ∀ x ∈ l, nameB x = true) : splitP (joinP l) = if 8 < l.length ∨ 64 < (l.map fun x => 1 + x.length).sum then none else some l := by
  cases l with
  | nil => decide
  | cons x t =>
    have hx := nameB_ne (h x (by simp))
    have e1 : joinP (x :: t) = 47 :: (x ++ joinF t) := by simp [joinP, joinF]
    have e2 := joinF_len (x :: t)
    have e3 : joinF (x :: t) = 47 :: (x ++ joinF t) := by simp [joinF]
    rw [e3, List.length_cons] at e2
    have hp := pieces_joinF x t (fun l hl => nameB_sign (h l hl))
    rw [e1, splitP_cons]
    rw [if_neg (show ¬ x ++ joinF t = [] by simp [hx]), hp]
    have hall : (x :: t).all nameB = true := List.all_eq_true.2 h
    obtain ⟨S, hS⟩ : ∃ S, ((x :: t).map fun x => 1 + x.length).sum = S := ⟨_, rfl⟩
    rw [hS] at e2 ⊢
    by_cases h : 8 < (x :: t).length ∨ 64 < S
    · rw [if_pos h]
      by_cases h64 : 64 < S
      · rw [if_neg (fun e => by omega)]
      · rw [if_pos ⟨rfl, by omega⟩, if_neg (fun e => by omega)]
    · rw [if_neg h, if_pos ⟨rfl, by omega⟩, if_pos ⟨by omega, hall⟩]
/-- What the library's Join answers behind a sign. -/
theorem join_lib (l : List Str) : 47 :: Lib.join l [47] = joinP l := by
  cases l with
  | nil => rfl
  | cons x t =>
    rw [Lib.join_cons]
    simp [joinP, joinF, Lib.joinTail, List.flatMap]
theorem split_lib (s : Str) : Lib.splitK [47] 0 (Lib.count s [47]) s = pieces s := by
  induction s with
  | nil => rw [Lib.count_miss (by simp [Lib.index])]; rfl
  | cons b l ih =>
    by_cases h : b = 47
    · subst h
      have hix : Lib.index (47 :: l) [47] = ((0 : Nat) : Int) := by rw [Lib.index]; simp [List.isPrefixOf]
      rw [Lib.count_cons_eq, Nat.add_comm, Lib.splitK, hix]
      simp only [pieces, if_true]
      rw [← ih]
      simp
    · rw [Lib.count_cons_ne b 47 l h]
      unfold pieces
      rw [if_neg h, ← ih]
      have hp : ([47] : Str).isPrefixOf (b :: l) = false := by simp [List.isPrefixOf, Ne.symm h]
      have hix : Lib.index (b :: l) [47] = if Lib.index l [47] == -1 then -1 else Lib.index l [47] + 1 := by rw [Lib.index, hp]; simp
      cases hc : Lib.count l [47] with
      | zero => simp [Lib.splitK, glue]
      | succ k =>
        have hm : Lib.index l [47] ≠ -1 := fun e => by rw [Lib.count_miss e] at hc; cases hc
        have hge := Lib.index_ge l [47]
        obtain ⟨j, hj⟩ : ∃ j : Nat, Lib.index l [47] = j := ⟨(Lib.index l [47]).toNat, by omega⟩
        have hix' : Lib.index (b :: l) [47] = ((j + 1 : Nat) : Int) := by rw [hix, if_neg (fun e => hm (beq_iff_eq.1 e)), hj]; omega
        rw [Lib.splitK, Lib.splitK, hix', hj]
        have n1 : ¬ (((j + 1 : Nat) : Int) == -1) = true := fun e => by have := beq_iff_eq.1 e; omega
        have n2 : ¬ (((j : Nat) : Int) == -1) = true := fun e => by have := beq_iff_eq.1 e; omega
        rw [if_neg n1, if_neg n2]
        simp [glue]
/-- The document's own way: letter by letter. -/
def stepP (p : List Str) (b : UInt8) : List Str := if b = 47 then p ++ [[]] else p.dropLast ++ [p.getLast?.getD [] ++ [b]]
theorem foldP (p : List Str) (x r : Str) : r.foldl stepP (p ++ [x]) = p ++ glue x (pieces r) := by
  induction r generalizing p x with
  | nil => simp [pieces, glue]
  | cons b r ih =>
    rw [List.foldl_cons]
    unfold pieces
    by_cases h : b = 47
    · rw [if_pos h]
      have e : stepP (p ++ [x]) b = (p ++ [x]) ++ [[]] := by simp [stepP, h]
      rw [e, ih]
      obtain ⟨h1, t1, e1⟩ := pieces_ne r
      simp [e1, glue]
    · rw [if_neg h]
      have e : stepP (p ++ [x]) b = p ++ [x ++ [b]] := by simp [stepP, h]
      rw [e, ih]
      obtain ⟨h1, t1, e1⟩ := pieces_ne r
      simp [e1, glue]
theorem foldP_all (r : Str) : (47 :: r).foldl stepP [] = pieces r := by
  rw [List.foldl_cons]
  have e : stepP [] 47 = [] ++ [[]] := by simp [stepP]
  rw [e, foldP]
  obtain ⟨h1, t1, e1⟩ := pieces_ne r
  simp [e1, glue]
theorem foldP_ne (r : Str) : (47 :: r).foldl stepP [] ≠ [] := by
  rw [foldP_all]
  obtain ⟨h1, t1, e1⟩ := pieces_ne r
  simp [e1]

/-! ### Under -/
theorem underP_self (a : Str) : underP a a = false := by
  unfold underP
  cases splitP a with
  | none => rfl
  | some x => simp
theorem underP_iff {a b : Str} (h : underP a b = true) : ∃ x y, splitP a = some x ∧ splitP b = some y ∧ y.length < x.length ∧ x.take y.length = y := by
  unfold underP at h
  split at h
  · next x y e1 e2 =>
    simp at h
    exact ⟨x, y, e1, e2, h.1, h.2⟩
  · cases h
theorem underP_anti {a b : Str} (h : underP a b = true) : underP b a = false := by
  cases h2 : underP b a with
  | false => rfl
  | true =>
    obtain ⟨x, y, e1, e2, h3, _⟩ := underP_iff h
    obtain ⟨y', x', e3, e4, h5, _⟩ := underP_iff h2
    rw [e1] at e4; rw [e2] at e3
    cases e3; cases e4
    omega
theorem underP_trans {a b c : Str} (h : underP a b = true) (h2 : underP b c = true) : underP a c = true := by
  obtain ⟨x, y, e1, e2, h3, h4⟩ := underP_iff h
  obtain ⟨y', z, e3, e5, h6, h7⟩ := underP_iff h2
  rw [e2] at e3
  cases e3
  unfold underP
  rw [e1, e5]
  simp only [Bool.and_eq_true, decide_eq_true_eq, beq_iff_eq]
  refine ⟨by omega, ?_⟩
  rw [← h4, List.take_take, Nat.min_eq_left (by omega)] at h7
  exact h7
theorem underP_root (a : Str) : underP a [47] = match splitP a with | some l => decide (0 < l.length) | none => false := by
  unfold underP
  rw [splitP_nil]
  cases splitP a <;> simp
/-! ### One sign -/
theorem pieces_one (b : Str) (h : ∀ x ∈ b, x ≠ 47) : pieces b = [b] := by
  have := pieces_joinF b [] (by simpa using h)
  simpa [joinF] using this
theorem splitP_one (b : Str) (h : ∀ x ∈ b, x ≠ 47) (hl : b.length ≤ 40) : (splitP (47 :: b)).isSome = (nameB b || decide (b.length = 0)) := by
  rw [splitP_cons, if_pos ⟨rfl, by omega⟩]
  by_cases hb : b = []
  · subst hb; decide
  · rw [if_neg hb, pieces_one b h]
    have : b.length ≠ 0 := fun e => hb (List.length_eq_zero_iff.1 e)
    cases hn : nameB b <;> simp [hn, this]
end Go.Proofs.YtllgdfdiigjecaaDoor
