/- The pieces that are kept, as plain mathematics: numbers and texts, in the order in which they came. No condition. -/
import Derived.Test.YtccahhehbpahoaaCMath
namespace Go.Proofs.Ytccahhehbpahoaa
open Crc (nx)
/-- The pieces: each with its number; the greatest number that ever was. -/
structure St where
  ps : List (Nat × List Nat)
  last : Nat
abbrev Ps := List (Nat × List Nat)
def byId (ps : Ps) (a : Int) : Option (List Nat) := (ps.find? fun p => decide ((p.1 : Int) = a)).map (·.2)
def byText (ps : Ps) (l : List Nat) : Option Nat := (ps.find? fun p => decide (p.2 = l)).map (·.1)
def ofSum (ps : Ps) (c : Int) : Ps := ps.filter fun p => decide (((nx 0 p.2 : Nat) : Int) = c)
def those (ps : Ps) (c : Int) : List Int := (ofSum ps c).map fun p => (p.1 : Int)
def without (ps : Ps) (a : Int) : Ps := ps.filter fun p => !decide ((p.1 : Int) = a)
def bytes (ps : Ps) : Nat := (ps.map fun p => p.2.length).sum
structure Ok (ps : Ps) (last : Nat) : Prop where
  pos : ∀ p ∈ ps, 1 ≤ p.1 ∧ p.1 ≤ last ∧ 1 ≤ p.2.length ∧ p.2.length ≤ 64 ∧ ∀ x ∈ p.2, x < 256
  ids : ps.Pairwise fun p r => p.1 ≠ r.1
  txt : ps.Pairwise fun p r => p.2 ≠ r.2
theorem ok_nil (n : Nat) : Ok [] n := ⟨by simp, List.Pairwise.nil, List.Pairwise.nil⟩
theorem byId_some {ps : Ps} {a : Int} {b : List Nat} (h : byId ps a = some b) : ∃ n : Nat, a = (n : Int) ∧ (n, b) ∈ ps := by
  unfold byId at h
  obtain ⟨p, hp, rfl⟩ := Option.map_eq_some_iff.1 h
  have h1 := List.mem_of_find?_eq_some hp
  have h2 := List.find?_some hp
  simp at h2
  exact ⟨p.1, h2.symm, h1⟩
theorem byId_none {ps : Ps} {a : Int} : byId ps a = none ↔ ∀ p ∈ ps, (p.1 : Int) ≠ a := by
  unfold byId
  simp [List.find?_eq_none]
theorem byId_mem {ps : Ps} (h : ps.Pairwise fun p r => p.1 ≠ r.1) {p : Nat × List Nat} (hp : p ∈ ps) : byId ps (p.1 : Int) = some p.2 := by
  induction ps with
  | nil => simp at hp
  | cons r ps ih =>
    obtain ⟨h1, h2⟩ := List.pairwise_cons.1 h
    rcases List.mem_cons.1 hp with rfl | hp
    · simp [byId]
    · have hne := h1 p hp
      have := ih h2 hp
      unfold byId at this ⊢
      rw [List.find?_cons_of_neg (by simp; omega)]
      exact this
theorem byText_none {ps : Ps} {l : List Nat} : byText ps l = none ↔ ∀ p ∈ ps, p.2 ≠ l := by
  unfold byText
  simp [List.find?_eq_none]
theorem byText_mem {ps : Ps} (h : ps.Pairwise fun p r => p.2 ≠ r.2) {p : Nat × List Nat} (hp : p ∈ ps) : byText ps p.2 = some p.1 := by
  induction ps with
  | nil => simp at hp
  | cons r ps ih =>
    obtain ⟨h1, h2⟩ := List.pairwise_cons.1 h
    rcases List.mem_cons.1 hp with rfl | hp
    · simp [byText]
    · have hne := h1 p hp
      have := ih h2 hp
      unfold byText at this ⊢
      rw [List.find?_cons_of_neg (by simpa using hne)]
      exact this
theorem byText_some {ps : Ps} {l : List Nat} {n : Nat} (h : byText ps l = some n) : (n, l) ∈ ps := by
  unfold byText at h
  obtain ⟨p, hp, rfl⟩ := Option.map_eq_some_iff.1 h
  have h1 := List.mem_of_find?_eq_some hp
  have h2 := List.find?_some hp
  simp at h2
  subst h2
  exact h1
theorem ofSum_mem {ps : Ps} {c : Int} {p : Nat × List Nat} (h : p ∈ ofSum ps c) : p ∈ ps := (List.mem_filter.1 h).1
/-- Looked for among those of one sum: none before i; the i-th is it, or none is. -/
theorem ofSum_hit {ps : Ps} {last : Nat} (h : Ok ps last) {l : List Nat} {i : Nat} (hi : i < (ofSum ps (nx 0 l : Nat)).length) (e : ((ofSum ps (nx 0 l : Nat))[i]).2 = l) : byText ps l = some ((ofSum ps (nx 0 l : Nat))[i]).1 := by
  have := byText_mem h.txt (ofSum_mem (List.getElem_mem hi))
  rwa [e] at this
theorem ofSum_miss {ps : Ps} {l : List Nat} (h : ∀ i (hi : i < (ofSum ps (nx 0 l : Nat)).length), ((ofSum ps (nx 0 l : Nat))[i]).2 ≠ l) : byText ps l = none := by
  rw [byText_none]
  intro p hp e
  have hm : p ∈ ofSum ps (nx 0 l : Nat) := List.mem_filter.2 ⟨hp, by rw [e]; simp⟩
  obtain ⟨i, hi, he⟩ := List.getElem_of_mem hm
  exact h i hi (by rw [he]; exact e)
theorem those_len (ps : Ps) (c : Int) : (those ps c).length = (ofSum ps c).length := by simp [those]
theorem those_get {ps : Ps} {c : Int} {i : Nat} (hi : i < (ofSum ps c).length) : (those ps c).getD i 0 = (((ofSum ps c)[i]).1 : Int) := by
  simp [those, List.getD_eq_getElem?_getD, hi]
theorem those_le (ps : Ps) (c : Int) : (those ps c).length ≤ ps.length := by
  rw [those_len]
  exact List.length_filter_le _ _

/-! ### One more -/
theorem Ok.add {ps : Ps} {last n : Nat} {l : List Nat} (h : Ok ps last) (h0 : 1 ≤ n) (h1 : 1 ≤ l.length) (h2 : l.length ≤ 64) (h3 : ∀ x ∈ l, x < 256) (hi : byId ps (n : Int) = none) (ht : byText ps l = none) : Ok (ps ++ [(n, l)]) (max last n) := by
  rw [byId_none] at hi
  rw [byText_none] at ht
  refine ⟨fun p hp => ?_, ?_, ?_⟩
  · rcases List.mem_append.1 hp with hp | hp
    · have := h.pos p hp
      exact ⟨this.1, by omega, this.2.2⟩
    · simp at hp
      subst hp
      exact ⟨h0, by show n ≤ _; omega, h1, h2, h3⟩
  · refine List.pairwise_append.2 ⟨h.ids, List.pairwise_singleton _ _, fun p hp r hr => ?_⟩
    simp at hr
    subst hr
    have := hi p hp
    show p.1 ≠ n
    omega
  · refine List.pairwise_append.2 ⟨h.txt, List.pairwise_singleton _ _, fun p hp r hr => ?_⟩
    simp at hr
    subst hr
    exact ht p hp
theorem byId_add {ps : Ps} {n : Nat} {l : List Nat} (hi : byId ps (n : Int) = none) (a : Int) : byId (ps ++ [(n, l)]) a = if a = (n : Int) then some l else byId ps a := by
  unfold byId at *
  rw [List.find?_append]
  by_cases h : a = (n : Int)
  · subst h
    rw [if_pos rfl]
    have : (ps.find? fun p => decide ((p.1 : Int) = (n : Int))) = none := by simpa using hi
    simp [this]
  · rw [if_neg h]
    cases hf : ps.find? fun p => decide ((p.1 : Int) = a) with
    | none => simp; omega
    | some p => simp
theorem those_add (ps : Ps) (n : Nat) (l : List Nat) (c : Int) : those (ps ++ [(n, l)]) c = if ((nx 0 l : Nat) : Int) = c then those ps c ++ [(n : Int)] else those ps c := by
  unfold those ofSum
  rw [List.filter_append]
  by_cases h : ((nx 0 l : Nat) : Int) = c
  · rw [if_pos h]; simp [h]
  · rw [if_neg h]; simp [h]
theorem bytes_add (ps : Ps) (n : Nat) (l : List Nat) : bytes (ps ++ [(n, l)]) = bytes ps + l.length := by
  simp [bytes]

/-! ### One less -/
theorem Ok.less {ps : Ps} {last : Nat} (h : Ok ps last) (a : Int) : Ok (without ps a) last :=
  ⟨fun p hp => h.pos p (List.mem_filter.1 hp).1, h.ids.filter _, h.txt.filter _⟩
theorem byId_less (ps : Ps) (a x : Int) : byId (without ps a) x = if x = a then none else byId ps x := by
  by_cases h : x = a
  · subst h
    rw [if_pos rfl, byId_none]
    intro p hp
    have := (List.mem_filter.1 hp).2
    simpa using this
  · rw [if_neg h]
    unfold byId without
    congr 1
    rw [List.find?_filter]
    congr 1
    funext p
    by_cases e : (p.1 : Int) = x
    · have : (p.1 : Int) ≠ a := by omega
      simp [e]
      omega
    · simp [e]
theorem those_less (ps : Ps) (a c : Int) : those (without ps a) c = (those ps c).filter fun x => !decide (x = a) := by
  unfold those ofSum without
  rw [List.filter_filter, List.filter_map, List.filter_filter]
  congr 1
  congr 1
  funext p
  simp [Bool.and_comm]
theorem those_other {ps : Ps} {last : Nat} (h : Ok ps last) {n : Nat} {l : List Nat} (hp : (n, l) ∈ ps) {c : Int} (hc : ((nx 0 l : Nat) : Int) ≠ c) : those (without ps (n : Int)) c = those ps c := by
  rw [those_less, List.filter_eq_self]
  intro x hx
  obtain ⟨r, hr, rfl⟩ := List.mem_map.1 hx
  have h1 := List.mem_filter.1 hr
  simp only [Bool.not_eq_true', decide_eq_false_iff_not]
  intro e
  have e1 := byId_mem h.ids h1.1
  have e2 := byId_mem h.ids hp
  rw [e] at e1
  rw [e2] at e1
  have e3 : l = r.2 := Option.some.inj e1
  apply hc
  rw [e3]
  simpa using h1.2
theorem bytes_less {ps : Ps} {last : Nat} (h : Ok ps last) {n : Nat} {l : List Nat} (hp : (n, l) ∈ ps) : bytes (without ps (n : Int)) + l.length = bytes ps := by
  have hid := h.ids
  clear h
  induction ps with
  | nil => simp at hp
  | cons r ps ih =>
    obtain ⟨h1, h2⟩ := List.pairwise_cons.1 hid
    rcases List.mem_cons.1 hp with rfl | hp
    · have : without ps (n : Int) = ps := by
        unfold without
        rw [List.filter_eq_self]
        intro p hp
        have := h1 p hp
        simp only [Bool.not_eq_true', decide_eq_false_iff_not]
        show ¬ (p.1 : Int) = n
        have h9 : n ≠ p.1 := this
        omega
      have e : without ((n, l) :: ps) (n : Int) = without ps n := by simp [without]
      rw [e, this]
      simp [bytes]; omega
    · have hne : r.1 ≠ n := h1 (n, l) hp
      have e : without (r :: ps) (n : Int) = r :: without ps n := by
        unfold without
        rw [List.filter_cons_of_pos (by simp; omega)]
      have := ih hp h2
      rw [e]
      simp only [bytes, List.map_cons, List.sum_cons] at this ⊢
      omega
theorem without_len {ps : Ps} {last : Nat} (h : Ok ps last) {n : Nat} {l : List Nat} (hp : (n, l) ∈ ps) : (without ps (n : Int)).length + 1 = ps.length := by
  have hid := h.ids
  clear h
  induction ps with
  | nil => simp at hp
  | cons r ps ih =>
    obtain ⟨h1, h2⟩ := List.pairwise_cons.1 hid
    rcases List.mem_cons.1 hp with rfl | hp
    · have : without ps (n : Int) = ps := by
        unfold without
        rw [List.filter_eq_self]
        intro p hp
        have := h1 p hp
        simp only [Bool.not_eq_true', decide_eq_false_iff_not]
        show ¬ (p.1 : Int) = n
        have h9 : n ≠ p.1 := this
        omega
      have e : without ((n, l) :: ps) (n : Int) = without ps n := by simp [without]
      rw [e, this]
      simp
    · have hne : r.1 ≠ n := h1 (n, l) hp
      have e : without (r :: ps) (n : Int) = r :: without ps n := by
        unfold without
        rw [List.filter_cons_of_pos (by simp; omega)]
      have := ih hp h2
      rw [e]
      simp only [List.length_cons]
      omega

/-! ### What is done -/
def put (s : St) (l : List Nat) : (Nat × Bool × Nat) × St :=
  if 1 ≤ l.length ∧ l.length ≤ 64 then
    match byText s.ps l with
    | some n => ((n, false, 0), s)
    | none => ((s.last + 1, true, 0), ⟨s.ps ++ [(s.last + 1, l)], s.last + 1⟩)
  else ((0, false, 1), s)
def set (s : St) (a : Int) (l : List Nat) : Nat × St :=
  if 1 ≤ a ∧ a ≤ 4611686018427387904 ∧ 1 ≤ l.length ∧ l.length ≤ 64 then
    if byId s.ps a ≠ none ∨ byText s.ps l ≠ none then (5, s)
    else (0, ⟨s.ps ++ [(a.toNat, l)], max s.last a.toNat⟩)
  else (1, s)
def drop (s : St) (a : Int) : Bool × St := if byId s.ps a = none then (false, s) else (true, ⟨without s.ps a, s.last⟩)
/-- No new number is there yet. -/
theorem Ok.next {ps : Ps} {last : Nat} (h : Ok ps last) : byId ps ((last + 1 : Nat) : Int) = none := by
  rw [byId_none]
  intro p hp
  have := (h.pos p hp).2.1
  omega
end Go.Proofs.Ytccahhehbpahoaa
