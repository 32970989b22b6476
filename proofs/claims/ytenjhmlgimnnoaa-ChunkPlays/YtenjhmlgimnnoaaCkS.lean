/- What Size of a store answers. No condition. -/
import Derived.Test.YtenjhmlgimnnoaaCkM
namespace Go.Proofs.Ytenjhmlgimnnoaa
open Go.ChangeShapes Go.WideShapes Go.ChangeAt Go.RowKit
open Go.Maps (keyOf_int_mk)
set_option maxRecDepth 4000
set_option linter.unusedVariables false
attribute [local go_sem ↓] Go.wp_at_zero Go.wp_at_succ
/-- How many bytes are still to come. -/
def leftB (ps : Ps) (left : Lit → Bool) : Nat := bytes (ps.filter fun p => left (.int .i64 (p.1 : Int)))
theorem leftB_none (ps : Ps) (left : Lit → Bool) (h : ∀ kl, left kl = false) : leftB ps left = 0 := by
  unfold leftB
  rw [List.filter_eq_nil_iff.2 (fun p _ => by simp [h])]
  rfl
theorem leftB_all (ps : Ps) (left : Lit → Bool) (h : ∀ p ∈ ps, left (.int .i64 (p.1 : Int)) = true) : leftB ps left = bytes ps := by
  unfold leftB
  rw [List.filter_eq_self.2 h]
theorem leftB_step {ps : Ps} {last : Nat} (h : Ok ps last) (left : Lit → Bool) {n : Nat} {l : List Nat} (hp : (n, l) ∈ ps) (hl : left (.int .i64 (n : Int)) = true) :
    leftB ps (fun z => left z && !z.sameKey (.int .i64 (n : Int))) + l.length = leftB ps left := by
  have e : (ps.filter fun p => left (.int .i64 (p.1 : Int)) && !(Lit.int .i64 (p.1 : Int)).sameKey (.int .i64 (n : Int))) = without (ps.filter fun p => left (.int .i64 (p.1 : Int))) (n : Int) := by
    unfold without
    rw [List.filter_filter]
    apply List.filter_congr
    intro p _
    simp only [Lit.sameKey]
    rw [Bool.and_comm]
    congr 1
    by_cases e : (p.1 : Int) = (n : Int) <;> simp [e]
  unfold leftB
  rw [e]
  have hok : Ok (ps.filter fun p => left (.int .i64 (p.1 : Int))) last := ⟨fun p hp => h.pos p (List.mem_filter.1 hp).1, h.ids.filter _, h.txt.filter _⟩
  exact bytes_less hok (List.mem_filter.2 ⟨hp, hl⟩)
theorem bytes_le {ps : Ps} {last : Nat} (h : Ok ps last) : bytes ps ≤ 64 * ps.length := by
  have hp := h.pos
  clear h
  induction ps with
  | nil => simp [bytes]
  | cons r ps ih =>
    have h1 := (hp r (by simp)).2.2.2.1
    have h2 := ih (fun p hp' => hp p (by simp [hp']))
    simp only [bytes, List.map_cons, List.sum_cons, List.length_cons] at h2 ⊢
    omega
/-- What stands under the keys of the pieces' map. -/
theorem MapIs.sees {w : World} {b n : Nat} {f : Int → Option Value} (h : MapIs w 3 .i64 b n f) : ∃ D : DataW Value, w.ownsMap Try.prog 3 tok b n D ∧ (∀ a v, f a = some v → Maps.has D (.int .i64 a) = true) ∧ ∀ (a : Int) u, (∀ z, D.atKey (.int .i64 a) z = .held u) → f a = some u := by
  obtain ⟨D, ho, hf⟩ := h
  refine ⟨D, ho, fun a v hv => ?_, fun a u hu => ?_⟩
  · have := hf a
    rw [hv] at this
    exact this.1
  · have := hf a
    cases hfa : f a with
    | none =>
      rw [hfa] at this
      have h2 := Maps.has_true_of_atKey hu
      rw [this] at h2
      cases h2
    | some v =>
      rw [hfa] at this
      have h2 := this.2 .nil
      rw [hu] at h2
      rw [DataW.held.inj h2]
set_option maxHeartbeats 400000 in
theorem size_made {base : Nat} {w : World} {q n bp bn : Nat} {ps : Ps} {last : Nat} {f g : Int → Option Value} (h : Parts base w q n ps ps last bp bn f g) (hok : Ok ps last) (hfew : ps.length ≤ 1000000) :
    Calls Try.prog 15 #[.pointer (some ⟨q, 0, none⟩)] w fun e w' => e = .returned (.int .i64 ((bytes ps : Nat) : Int)) ∧ Below w.heap.size w w' := by
  obtain ⟨c0, c1, c2, cf⟩ := h.cells
  obtain ⟨D, hown, hs1, hs2⟩ := h.mp.sees
  have HPC := hid h.pc
  have HOK := hid hok
  have HS1 := hid hs1
  have HS2 := hid hs2
  have hbl := bytes_le hok
  have HOW := hid hown
  clear h hs1 hs2 hok c1 c2 cf
  go_enter Try.func15, Try.ntmps15
  go_wp2_with (first | (at_range; refine wpList_range_own _ rfl _ 52 rfl 3 27 law3 Try.underlying52 tok bp n D rfl HOW.out ?_; intro w0 hrg0 hg0 hs0))
  go_frame
  have HL : Hid (leftB ps (Maps.has D) = bytes ps) := leftB_all ps _ (fun p hp => by
    obtain ⟨v, hv, _⟩ := (HPC.out (p.1 : Int)).2 p.2 (byId_mem HOK.out.ids hp)
    exact HS1.out _ v hv)
  have HG0 : Hid (Below w.heap.size w w0) := (Below.refl _ w).grown hg0 (Nat.le_refl _) (fun j hj => by cases hj)
  have HRG0 := hid hrg0
  clear hrg0 hg0 hs0
  go_loopg [3] (Maps.size D) (fun gk v3 wr => ∃ (acc : Nat) (left : Lit → Bool) (cnt : Nat), cnt ≤ gk ∧ v3 = .int .i64 (acc : Int) ∧ Hid (wr.ranges Try.prog 3 tok bp w.heap.size n D left cnt) ∧ Hid (acc + leftB ps left = bytes ps) ∧ Hid (Below w.heap.size w wr))
  case atStart => exact ⟨0, _, _, Nat.le_refl _, rfl, HRG0, by rw [← HL.out]; exact hid (Nat.zero_add _), HG0⟩
  case round =>
    obtain ⟨acc, left, cnt, hcg, rfl, HRG, HAC, HBW⟩ := hrel
    have hacc : acc ≤ 64000000 := by have := HAC.out; omega
    go_wp2_with (first
      | (at_next; refine wpList_next_ranges _ rfl _ rfl 3 law3 tok (Value.int .i64) (fun v : Value => v) (fun key kl hk => by obtain ⟨x, e, _⟩ := Maps.keyOf_int_inv Try.underlying3 hk; exact ⟨x, e⟩) (fun v y _ => ⟨v, rfl⟩) bp w.heap.size n D left cnt rfl HRG.out ?_ ?_))
    · intro _ hl0
      have HA : Hid (acc = bytes ps) := by have := HAC.out; rw [leftB_none ps left hl0] at this; exact this
      clear hl0
      go_wp2_with fail
      go_ret
      rw [← HA.out]
      exact ⟨rfl, HBW.out⟩
    · intro x v kl yd yp w2 cnt2 hkey hlk hv hat hrg2 hlt hg2 hs2 hen
      obtain ⟨x', e1, rfl, hwx⟩ := Maps.keyOf_int_inv Try.underlying3 hkey
      cases e1
      have hy := tok_inv hv
      simp only [Prod.mk.injEq] at hy
      obtain ⟨rfl, rfl⟩ := hy
      have hfx := HS2.out x v hat
      cases hi : byId ps x with
      | none =>
        have := (HPC.out x).1 hi
        rw [hfx] at this
        cases this
      | some b =>
        obtain ⟨u, hu, g0, cap, hue, _⟩ := (HPC.out x).2 b hi
        rw [hfx] at hu
        cases hu
        subst hue
        obtain ⟨k, rfl, hmem⟩ := byId_some hi
        have hst := leftB_step HOK.out left hmem hlk
        have hb64 : b.length ≤ 64 := (HOK.out.pos _ hmem).2.2.2.1
        have HB2 := hid (HBW.out.grown hg2 HBW.out.size (fun j hj => by cases hj; exact Nat.le_refl _))
        have HR2 := hid hrg2
        have HST := hid hst
        have hc2 : cnt2 < cnt := hlt
        obtain ⟨bl, hbl'⟩ : ∃ bl, b.length = bl := ⟨_, rfl⟩
        have HBL := hid hbl'
        rw [hbl'] at hb64 hen
        clear hkey hlk hv hat hrg2 hlt hg2 hs2 hfx hi hmem hst hbl'
        go_wp2_with fail
        go_roundg (gk - 1)
        case measure => omega
        case rel =>
          refine ⟨acc + bl, _, cnt2, by omega, by go_num, HR2, ?_, HB2⟩
          have e1 := HAC.out
          have e2 := HST.out
          have e3 := HBL.out
          show _ = _
          omega
set_option maxHeartbeats 400000 in
theorem size_nil {w : World} {q : Nat} {z : Int} (h : w.heap[q]? = some (.cells #[.map none, .map none, .int .i64 z] 55 (0, 0))) :
    Calls Try.prog 15 #[.pointer (some ⟨q, 0, none⟩)] w fun e w' => e = .returned (.int .i64 0) ∧ Below w.heap.size w w' := by
  have c0 : w.cell? ⟨q, 0, none⟩ = some (.map none) := by rw [cell_of_row w q 0 _ 55 (0, 0) h]; rfl
  have hrg := run_range_nilMap (P := Try.prog) w 52 3 27 Try.underlying52
  have hnx : ∀ ty, (Instr.next (.pointer (some ⟨w.heap.size, 0, none⟩)) false ty).run Try.prog (w.alloc (.mapIter none 0 #[] 0)) = _ := fun ty => run_next_nilMap w ty 0 0 #[]
  clear h
  go_enter Try.func15, Try.ntmps15
  go_wp2_with fail
  refine wp_loop_rounds 1 ?_
  rw [rounds_succ]
  go_wp2_with fail
  go_ret
  exact ⟨rfl, (Below.refl _ w).alloc (Nat.le_refl _) _⟩
theorem size_any {base : Nat} {w : World} {q n : Nat} {s : St} (h : CkAt base w q n s) (hn : n ≤ 1000000) :
    Calls Try.prog 15 #[.pointer (some ⟨q, 0, none⟩)] w fun e w' => e = .returned (.int .i64 ((bytes s.ps : Nat) : Int)) ∧ Below w.heap.size w w' := by
  obtain ⟨hok, hfew, P, N, hq, hmp⟩ := h
  rcases hmp with ⟨rfl, rfl, hps⟩ | ⟨bp, bn, f, g, rfl, rfl, h3, h4, h5, h6, h7, h8, h9⟩
  · rw [hps]
    exact size_nil hq
  · exact size_made ⟨hq, h3, h4, h5, h6, h7, h8, h9⟩ hok (by omega)
end Go.Proofs.Ytenjhmlgimnnoaa
