/- What the document's own Eye answers, whatever lies before it: the same as the plain mathematics. No condition but the model's own greatest length. -/
import Derived.Test.YtpeecmfchnlmlaaHeld
namespace Go.Proofs.Ytpeecmfchnlmlaa
open Go.RowKit Pen
/-- A row that lies below B. -/
def RowLow (B : Nat) (w : World) (a : Option Addr) (l : List Nat) : Prop :=
  (∀ x ∈ l, x < 256) ∧ (l = [] ∨ ∃ b off, a = some ⟨b, off, none⟩ ∧ b < B ∧ ∀ i, i < l.length → w.cell? ⟨b, off + i, none⟩ = some (.int .u8 (l.getD i 0 : Nat)))
theorem RowLow.below {B : Nat} {w w' : World} {a : Option Addr} {l : List Nat} (h : RowLow B w a l) (hb : Below B w w') : RowLow B w' a l := by
  refine ⟨h.1, ?_⟩
  rcases h.2 with h2 | ⟨b, off, ha, hlt, hc⟩
  · exact .inl h2
  · exact .inr ⟨b, off, ha, hlt, fun i hi => (hb.cell (p := ⟨b, off + i, none⟩) hlt).trans (hc i hi)⟩
def fromA (a : Option Addr) (k cap : Nat) : Option Addr := if cap = k then a else a.map (·.add k)
theorem RowLow.take {B : Nat} {w : World} {a : Option Addr} {l : List Nat} (h : RowLow B w a l) (k : Nat) : RowLow B w a (l.take k) := by
  refine ⟨fun x hx => h.1 x (List.mem_of_mem_take hx), ?_⟩
  rcases h.2 with h2 | ⟨b, off, ha, hlt, hc⟩
  · exact .inl (by rw [h2]; simp)
  · refine .inr ⟨b, off, ha, hlt, fun i hi => ?_⟩
    have hi' : i < l.length ∧ i < k := by simp at hi; omega
    rw [hc i hi'.1]
    simp [hi'.2]
theorem RowLow.drop {B : Nat} {w : World} {a : Option Addr} {l : List Nat} (h : RowLow B w a l) (k cap : Nat) (hcap : l.length ≤ cap) : RowLow B w (fromA a k cap) (l.drop k) := by
  refine ⟨fun x hx => h.1 x (List.mem_of_mem_drop hx), ?_⟩
  rcases h.2 with h2 | ⟨b, off, ha, hlt, hc⟩
  · exact .inl (by rw [h2]; simp)
  · by_cases hk : cap = k
    · exact .inl (List.drop_of_length_le (by omega))
    · refine .inr ⟨b, off + k, ?_, hlt, fun i hi => ?_⟩
      · subst ha
        simp only [fromA, if_neg hk, Option.map_some, Addr.add]
        split
        · next h => rw [h]; rfl
        · rfl
      · have hi' : k + i < l.length := by simp at hi; omega
        rw [Nat.add_assoc, hc (k + i) hi']
        simp
theorem RowLow.row {B : Nat} {w : World} {a : Option Addr} {l : List Nat} (h : RowLow B w a l) (hB : B ≤ w.heap.size) : Row w a l := by
  refine ⟨h.1, ?_⟩
  rcases h.2 with h2 | ⟨b, off, ha, hlt, hc⟩
  · exact .inl h2
  · exact .inr ⟨b, off, ha, Nat.lt_of_lt_of_le hlt hB, hc⟩
theorem elem25 : Try.prog.elem 25 = 5 := by kernel_rfl
theorem size5 (w : World) : (sizeOf 5).run Try.prog w = .ok 1 w := by kernel_rfl
theorem addr_add0 (a : Addr) : a.add 0 = a := by unfold Addr.add; simp
theorem slice_to (w : World) (a : Option Addr) (n cap k : Nat) (hk : k ≤ cap) : (Instr.slice 25 (.slice a n cap) none (some (.int .i64 (k : Int))) none).run Try.prog w = .ok (.slice a k cap) w := by
  rw [run_slice_h (ht := (by rw [elem25]; exact Try.underlying25 : Try.prog.underlying 25 = some (.slice (Try.prog.elem 25)))) (kh := .i64) (h := (k : Int)) (h0 := by omega) (h2 := by omega), elem25, size5]
  simp [sliced, Result.andThen, addr_add0]
theorem slice_from (w : World) (a : Option Addr) (n cap k : Nat) (hk : k ≤ n) : (Instr.slice 25 (.slice a n cap) (some (.int .i64 (k : Int))) none none).run Try.prog w = .ok (.slice (fromA a k cap) (n - k) (cap - k)) w := by
  rw [run_slice_l (ht := (by rw [elem25]; exact Try.underlying25 : Try.prog.underlying 25 = some (.slice (Try.prog.elem 25)))) (kl := .i64) (l := (k : Int)) (h0 := by omega) (h1 := by omega), elem25, size5]
  simp [sliced, Result.andThen, fromA]
/-- At q lies an Eye of the document's own answer, with l before it; its row lies below B. -/
def Ref (B : Nat) (w : World) (q : Nat) (l : List Nat) (bad : Bool) : Prop :=
  ∃ a n cap, w.heap[q]? = some (.cells #[.slice a n cap, .bool bad] 47 (0, 0)) ∧ l.length = n ∧ n ≤ cap ∧ cap ≤ maxLen ∧ RowLow B w a l ∧ B ≤ q
theorem Ref.kept {B : Nat} {w w' : World} {q : Nat} {l : List Nat} {bad : Bool} (h : Ref B w q l bad) (hq : w'.heap[q]? = w.heap[q]?) (hb : Below B w w') : Ref B w' q l bad := by
  obtain ⟨a, n, cap, h1, h2, h3, h4, h5, h6⟩ := h
  exact ⟨a, n, cap, hq.trans h1, h2, h3, h4, h5.below hb, h6⟩
theorem Ref.lt {B : Nat} {w : World} {q : Nat} {l : List Nat} {bad : Bool} (h : Ref B w q l bad) : q < w.heap.size := by
  obtain ⟨a, n, cap, h1, _⟩ := h
  exact (Array.getElem?_eq_some_iff.1 h1).1
/-- Behind a store of the flag. -/
theorem Ref.flag {B : Nat} {w : World} {q : Nat} {l : List Nat} {bad : Bool} (h : Ref B w q l bad) (b' : Bool) : Ref B (w.setCell ⟨q, 1, none⟩ (.bool b')) q l b' ∧ Only q none w (w.setCell ⟨q, 1, none⟩ (.bool b')) := by
  obtain ⟨a, n, cap, h1, h2, h3, h4, h5, h6⟩ := h
  have ho := only_set w q 1 (.bool b')
  have hlt := (Array.getElem?_eq_some_iff.1 h1).1
  exact ⟨⟨a, n, cap, (set2 h1 _).2, h2, h3, h4, h5.below (ho.below h6 (by simp) (by omega)), h6⟩, ho⟩
/-- Behind a store of what is left. -/
theorem Ref.rest {B : Nat} {w : World} {q : Nat} {l : List Nat} {bad : Bool} {a : Option Addr} {n cap : Nat} (k : Nat) (h1 : w.heap[q]? = some (.cells #[.slice a n cap, .bool bad] 47 (0, 0))) (h2 : l.length = n) (h3 : n ≤ cap) (h4 : cap ≤ maxLen) (h5 : RowLow B w a l) (h6 : B ≤ q) :
    Hid (Ref B (w.setCell ⟨q, 0, none⟩ (.slice (fromA a k cap) (n - k) (cap - k))) q (l.drop k) bad ∧ Only q none w (w.setCell ⟨q, 0, none⟩ (.slice (fromA a k cap) (n - k) (cap - k)))) := by
  have ho := only_set w q 0 (.slice (fromA a k cap) (n - k) (cap - k))
  have hlt := (Array.getElem?_eq_some_iff.1 h1).1
  exact ⟨⟨_, _, _, (set2 h1 _).1, by simp; omega, by omega, by omega, (h5.drop k cap (by omega)).below (ho.below h6 (by simp) (by omega)), h6⟩, ho⟩
theorem rbyte_bad {B : Nat} {w : World} {q : Nat} {l : List Nat} (h : Ref B w q l true) :
    Calls Try.prog 25 #[.pointer (some ⟨q, 0, none⟩)] w fun e w' => e = .returned (.int .u8 0) ∧ Ref B w' q l true ∧ Only q none w w' := by
  have HF := hid (h.flag true)
  obtain ⟨a, n, cap, h1, h2, h3, h4, h5, h6⟩ := h
  have hc := (cell2 h1).2
  have hf1 := frozen_of_row w q 1 _ 47 h1
  clear h5
  go_enter Try.func25, Try.ntmps25
  go_wp2
  go_ret
  exact ⟨rfl, HF.out⟩
theorem rbyte_ok {B : Nat} {w : World} {q : Nat} {l : List Nat} (h : Ref B w q l false) :
    Calls Try.prog 25 #[.pointer (some ⟨q, 0, none⟩)] w fun e w' => e = .returned (.int .u8 (l.getD 0 0 : Nat)) ∧ Ref B w' q l.tail l.isEmpty ∧ Only q none w w' := by
  have HF := hid (h.flag true)
  obtain ⟨a, n, cap, h1, h2, h3, h4, h5, h6⟩ := h
  have hc := (cell2 h1)
  have hf1 := frozen_of_row w q 1 _ 47 h1
  have hf0 := frozen_of_row w q 0 _ 47 h1
  cases l with
  | nil =>
    obtain rfl : 0 = n := h2
    clear h5
    go_enter Try.func25, Try.ntmps25
    go_wp2
    go_ret
    exact ⟨rfl, HF.out⟩
  | cons x r =>
    have HX := Ref.rest 1 h1 h2 h3 h4 h5 h6
    obtain ⟨b, off, rfl, hbl, hcell⟩ : ∃ b off, a = some ⟨b, off, none⟩ ∧ b < B ∧ ∀ i, i < (x :: r).length → w.cell? ⟨b, off + i, none⟩ = some (.int .u8 ((x :: r).getD i 0 : Nat)) := by
      rcases h5.2 with h | h
      · simp at h
      · exact h
    have hc0 : w.cell? ⟨b, off, none⟩ = some (.int .u8 (x : Int)) := hcell 0 (by simp)
    have hn : 0 < n := by rw [← h2]; simp
    have g1 : ((n : Int) == 0) = false := by simp; omega
    have hs := slice_from w (some ⟨b, off, none⟩) n cap 1 (by omega)
    have hs1 : (Instr.slice 25 (.slice (some ⟨b, off, none⟩) n cap) (some (.int .i64 1)) none none).run Try.prog w = .ok (.slice (fromA (some ⟨b, off, none⟩) 1 cap) (n - 1) (cap - 1)) w := hs
    generalize fromA (some ⟨b, off, none⟩) 1 cap = A at hs1 HX
    clear h5 hcell hs h2
    go_enter Try.func25, Try.ntmps25
    go_wp2
    go_ret
    exact ⟨rfl, HX.out⟩
theorem rleft_bad {B : Nat} {w : World} {q : Nat} {l : List Nat} (h : Ref B w q l true) :
    Calls Try.prog 29 #[.pointer (some ⟨q, 0, none⟩)] w fun e w' => e = .returned (.int .i64 0) ∧ w' = w := by
  obtain ⟨a, n, cap, h1, h2, h3, h4, h5, h6⟩ := h
  have hc := (cell2 h1).2
  clear h5
  go_enter Try.func29, Try.ntmps29
  go_wp2
  go_ret
  exact ⟨rfl, rfl⟩
theorem rleft_ok {B : Nat} {w : World} {q : Nat} {l : List Nat} (h : Ref B w q l false) :
    Calls Try.prog 29 #[.pointer (some ⟨q, 0, none⟩)] w fun e w' => e = .returned (.int .i64 (l.length : Nat)) ∧ w' = w := by
  obtain ⟨a, n, cap, h1, h2, h3, h4, h5, h6⟩ := h
  have hc := (cell2 h1)
  rw [h2]
  clear h5 h2
  go_enter Try.func29, Try.ntmps29
  go_wp2
  go_ret
  exact ⟨rfl, rfl⟩
/-- The document's own Eye beside the program's: they have the same before them, as long as nothing was bad. -/
def Same (B : Nat) (w : World) (q : Nat) (l : List Nat) (bad : Bool) : Prop := (bad = true → l = []) ∧ ∃ l', Ref B w q l' bad ∧ (bad = false → l' = l)
theorem sbyte {B : Nat} {w : World} {q : Nat} {l : List Nat} {bad : Bool} (h : Same B w q l bad) :
    Calls Try.prog 25 #[.pointer (some ⟨q, 0, none⟩)] w fun e w' => e = .returned (.int .u8 (l.getD 0 0 : Nat)) ∧ Same B w' q l.tail (bad || l.isEmpty) ∧ Only q none w w' := by
  obtain ⟨h0, l', hr, hl⟩ := h
  cases bad with
  | true =>
    obtain rfl := h0 rfl
    exact (rbyte_bad hr).mono fun e w' ⟨he, h1, h2⟩ => ⟨he, ⟨fun _ => rfl, l', h1, by simp⟩, h2⟩
  | false =>
    obtain rfl := hl rfl
    refine (rbyte_ok hr).mono fun e w' ⟨he, h1, h2⟩ => ⟨he, ⟨?_, l'.tail, by simpa using h1, fun _ => rfl⟩, h2⟩
    cases l' <;> simp
theorem sleft {B : Nat} {w : World} {q : Nat} {l : List Nat} {bad : Bool} (h : Same B w q l bad) :
    Calls Try.prog 29 #[.pointer (some ⟨q, 0, none⟩)] w fun e w' => e = .returned (.int .i64 (l.length : Nat)) ∧ w' = w := by
  obtain ⟨h0, l', hr, hl⟩ := h
  cases bad with
  | true =>
    obtain rfl := h0 rfl
    exact rleft_bad hr
  | false =>
    obtain rfl := hl rfl
    exact rleft_ok hr
end Go.Proofs.Ytpeecmfchnlmlaa
