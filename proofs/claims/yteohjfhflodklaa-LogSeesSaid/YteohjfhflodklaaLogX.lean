/- Rows of what Where told, slices of rows of rows, and what More finds behind a cut. No condition but the sizes named. -/
import Derived.Test.YteohjfhflodklaaLogW
namespace Go.Proofs.Yteohjfhflodklaa
open Go.ChangeShapes Go.WideShapes Go.ChangeAt Go.RowKit Pen
open Crc (four nx run)
theorem Ing.other {S : Nat → Prop} {s t : Nat} {w w' : World} {g q p x : Nat} {d : Dk} {k mm : Nat} {segs : List Nat} {recs : List (Nat × List Nat)} {v : Value} {rs : List (List Nat)} (h : Ing s t w g q p x d k mm segs recs v rs) (hb : But S w w') (hS : ∀ j, S j → t ≤ j ∧ ∃ ty, Tag w j ty ∧ ty ≠ 40 ∧ ty ≠ 3) : Ing s t w' g q p x d k mm segs recs v rs := by
  have hno : ∀ j, (j = q ∨ j = p ∨ j = x ∨ j = g) → ¬ S j := fun j e hs => by have := h.far j e; have := (hS j hs).1; omega
  have hst := h.st
  refine ⟨⟨⟨h.is.sys.log.but hb (noInts_of fun j e => by obtain ⟨_, ty, h1, _, h3⟩ := hS j e; exact ⟨ty, h1, h3⟩) (hno g (.inr (.inr (.inr rfl)))), h.is.sys.disk.but hb (hno q (.inl rfl)) (hno p (.inr (.inl rfl))), h.is.sys.space.but hb (hno x (.inr (.inr (.inl rfl)))), h.is.sys.dead, h.is.sys.fuse, h.is.sys.room, h.is.sys.le, h.is.sys.low, h.is.sys.fit, h.is.sys.few⟩, h.is.at_, h.is.ok, h.is.nodup, h.is.blank, h.is.ops, h.is.tight, h.is.whole⟩, h.rows.but2 hb (fun j e => ?_), Nat.le_trans h.past hb.size, h.far, h.st⟩
  obtain ⟨h1, ty, h2, h3, _⟩ := hS j e
  exact ⟨⟨ty, h2, h3⟩, by omega⟩
theorem other_below {S : Nat → Prop} {s t : Nat} {w w' : World} (hb : But S w w') (hs : s ≤ w.heap.size) (hst : s ≤ t) (hS : ∀ j, S j → t ≤ j) : Below s w w' :=
  hb.below (base := s) (fun j e => Nat.le_trans hst (hS j e)) hs
/-- What Where told, behind each record. -/
def Wheres (t : Nat) (w : World) (v : Value) (recs : List (Nat × List Nat)) : Prop :=
  ∃ xs : List Value, w.ownsRow t 36 3 v (recs.length + 1) xs ∧ ∀ j, j ≤ recs.length → ∃ a k c, xs[3 * j]? = some (.slice a k c) ∧ xs[3 * j + 1]? = some (.int .i64 (lenOf (recs.take j) : Nat)) ∧ xs[3 * j + 2]? = some (.int .u32 (lastOf 0 (recs.take j) : Nat))
theorem owns_keep {w w' : World} {b e m n : Nat} {v : Value} {xs : List Value} (h : w.ownsRow b e m v n xs) (hk : ∀ (y : Nat) (cur : Array Value), b ≤ y → w.heap[y]? = some (Obj.cells cur e (0, 0)) → w'.heap[y]? = some (Obj.cells cur e (0, 0))) : w'.ownsRow b e m v n xs := by
  refine ⟨h.1, ?_⟩
  rcases h.2 with h | ⟨g, cap, cur, h1, h2, h3, h4⟩
  · exact .inl h
  · exact .inr ⟨g, cap, cur, h1, h2, hk g cur h2 h3, h4⟩
theorem Wheres.keep {t : Nat} {w w' : World} {v : Value} {recs : List (Nat × List Nat)} (h : Wheres t w v recs) (hk : ∀ (y : Nat) (cur : Array Value), t ≤ y → w.heap[y]? = some (Obj.cells cur 36 (0, 0)) → w'.heap[y]? = some (Obj.cells cur 36 (0, 0))) : Wheres t w' v recs := by
  obtain ⟨xs, h1, h2⟩ := h
  exact ⟨xs, owns_keep h1 hk, h2⟩
theorem Wheres.below {t : Nat} {w w' : World} {v : Value} {recs : List (Nat × List Nat)} (h : Wheres t w v recs) (hb : Below w.heap.size w w') : Wheres t w' v recs :=
  h.keep fun y _ _ hy => (hb.block y (Array.getElem?_eq_some_iff.1 hy).1).trans hy
theorem Wheres.slice {t : Nat} {w : World} {v : Value} {recs : List (Nat × List Nat)} (h : Wheres t w v recs) : ∃ y c cur, v = .slice (some ⟨y, 0, none⟩) (recs.length + 1) c ∧ t ≤ y ∧ w.heap[y]? = some (Obj.cells cur 36 (0, 0)) ∧ v.ownBlock = some y ∧ ∀ j, j ≤ recs.length → ∃ a k c, cur[3 * j]? = some (.slice a k c) ∧ cur[3 * j + 1]? = some (.int .i64 (lenOf (recs.take j) : Nat)) ∧ cur[3 * j + 2]? = some (.int .u32 (lastOf 0 (recs.take j) : Nat)) := by
  obtain ⟨xs, h1, h2⟩ := h
  rcases h1.2 with ⟨_, h0⟩ | ⟨y, c, cur, rfl, hb, hg, hc, hm, hs, ht⟩
  · omega
  · refine ⟨y, c, cur, rfl, hb, hg, rfl, fun j hj => ?_⟩
    obtain ⟨a, k, c', e0, e1, e2⟩ := h2 j hj
    have hget : ∀ i, i < (recs.length + 1) * 3 → cur[i]? = xs[i]? := fun i hi => by
      rw [← ht, List.getElem?_take, if_pos hi]
      simp
    exact ⟨a, k, c', by rw [hget _ (by omega)]; exact e0, by rw [hget _ (by omega)]; exact e1, by rw [hget _ (by omega)]; exact e2⟩
theorem info36 : (Try.prog.info? 36).map (fun i => (i.zero, i.size, i.bytes)) = some (some (.agg #[.slice none 0 0, .int .i64 0, .int .u32 0]), 3, 40) := by kernel_rfl
theorem load36_at {w : World} {y off : Nat} {v0 v1 v2 : Value} (h0 : w.cell? ⟨y, off, none⟩ = some v0) (h1 : w.cell? ⟨y, off + 1, none⟩ = some v1) (h2 : w.cell? ⟨y, off + 2, none⟩ = some v2) : (Instr.loadAt 36 (.pointer (some ⟨y, off, none⟩))).run Try.prog w = .ok (.agg #[v0, v1, v2]) w := by
  refine run_loadAt_mid w y off 36 [v0, v1, v2] _ (fun j v hv => ?_) Try.underlying36 rfl (by exact size36)
  match j, hv with
  | 0, hv => simp at hv; subst hv; exact h0
  | 1, hv => simp at hv; subst hv; exact h1
  | 2, hv => simp at hv; subst hv; exact h2
  | j + 3, hv => simp at hv
theorem app_three (W : World) (base : Nat) (v : Value) (n : Nat) (xs : List Value) (hown : W.ownsRow base 36 3 v n xs) (y : Nat) (u0 u1 u2 : Value) (hy : W.heap[y]? = some (.cells #[u0, u1, u2] 36 (0, 0))) (hu : u0.oneCell' = true ∧ u1.oneCell' = true ∧ u2.oneCell' = true) (hn : n ≤ 100000) (hbase : base ≤ W.heap.size) :
    ∃ g cap' w', (Builtin.append_ #[49, 49] 49 #[v, .slice (some ⟨y, 0, none⟩) 1 1]).run Try.prog W = .ok (.slice (some ⟨g, 0, none⟩) (n + 1) cap') w' ∧ w'.ownsRow base 36 3 (.slice (some ⟨g, 0, none⟩) (n + 1) cap') (n + 1) (xs ++ [u0, u1, u2]) ∧ W.grownBy w' v.ownBlock ∧ (v.ownBlock = some g ∨ W.heap.size ≤ g) := by
  obtain ⟨i, hi5, hzz⟩ := Option.map_eq_some_iff.1 info36
  simp only [Prod.mk.injEq] at hzz
  obtain ⟨g, cap', w', hrun, h2, h3, h4, _⟩ := run_append_lies (P := Try.prog) W 49 49 base 36 i (.agg #[.slice none 0 0, .int .i64 0, .int .u32 0]) 3 40 Try.underlying49 hi5 hzz.1 hzz.2.1 hzz.2.2 rfl (by decide) v n xs hown ⟨y, 0, none⟩ 1 1 [u0, u1, u2] rfl (by
    intro j x hx
    have hadd : (⟨y, 0, none⟩ : Addr).add j = ⟨y, j, none⟩ := by unfold Addr.add; split <;> simp_all
    rw [hadd, cell_of_row W y j _ 36 (0, 0) hy]
    simpa using hx) (by intro x hx; simp at hx; rcases hx with rfl | rfl | rfl; exact hu.1; exact hu.2.1; exact hu.2.2) (by decide) (by unfold maxLen; omega) (by omega) hbase _ rfl
  exact ⟨g, cap', w', hrun, h2, h3, h4.imp id fun e => by omega⟩
theorem owns_tag' {w : World} {base e n m k : Nat} {v : Value} {xs : List Value} (h : w.ownsRow base e m v n xs) (hk : v.ownBlock = some k) : Tag w k e ∧ base ≤ k := by
  rcases h.2 with ⟨rfl, _⟩ | ⟨g', cap', cur, rfl, hb', hg', hc⟩
  · simp [Value.ownBlock] at hk
  · simp [Value.ownBlock] at hk
    subst hk
    exact ⟨⟨_, hg'⟩, hb'⟩
/-! ### Slices of rows of rows -/
theorem elem22 : Try.prog.elem 22 = 40 := by kernel_rfl
theorem size40 (w : World) : (sizeOf 40).run Try.prog w = .ok 1 w := by kernel_rfl
theorem slice_to22 (w : World) (a : Option Addr) (n cap k : Nat) (hk : k ≤ cap) : (Instr.slice 22 (.slice a n cap) none (some (.int .i64 (k : Int))) none).run Try.prog w = .ok (.slice a k cap) w := by
  rw [run_slice_h (ht := (by rw [elem22]; exact Try.underlying22 : Try.prog.underlying 22 = some (.slice (Try.prog.elem 22)))) (kh := .i64) (h := (k : Int)) (h0 := by omega) (h2 := by omega), elem22, size40]
  simp [sliced, Result.andThen, addr_add0]
theorem slice_from22 (w : World) (a : Option Addr) (n cap k : Nat) (hk : k ≤ n) : (Instr.slice 22 (.slice a n cap) (some (.int .i64 (k : Int))) none none).run Try.prog w = .ok (.slice (fromA a k cap) (n - k) (cap - k)) w := by
  rw [run_slice_l (ht := (by rw [elem22]; exact Try.underlying22 : Try.prog.underlying 22 = some (.slice (Try.prog.elem 22)))) (kl := .i64) (l := (k : Int)) (h0 := by omega) (h1 := by omega), elem22, size40]
  simp [sliced, Result.andThen, fromA]
theorem grid_take {w : World} {a : Option Addr} {ls : List (List Nat)} (h : Grid w a ls) (k : Nat) : Grid w a (ls.take k) := by
  rcases h with h | ⟨b, off, ha, hlt, hc⟩
  · exact .inl (by rw [h]; simp)
  · refine .inr ⟨b, off, ha, hlt, fun i hi => ?_⟩
    have hi' : i < ls.length ∧ i < k := by simp at hi; omega
    obtain ⟨ai, ci, h1, h2⟩ := hc i hi'.1
    have e : (ls.take k).getD i [] = ls.getD i [] := by simp [hi'.2]
    rw [e]
    exact ⟨ai, ci, h1, h2⟩
theorem grid_drop {w : World} {a : Option Addr} {ls : List (List Nat)} (h : Grid w a ls) (k cap : Nat) (hcap : ls.length ≤ cap) : Grid w (fromA a k cap) (ls.drop k) := by
  rcases h with h | ⟨b, off, ha, hlt, hc⟩
  · exact .inl (by rw [h]; simp)
  · by_cases hk : cap = k
    · exact .inl (List.drop_of_length_le (by omega))
    · refine .inr ⟨b, off + k, ?_, hlt, fun i hi => ?_⟩
      · subst ha
        simp only [fromA, if_neg hk, Option.map_some, Addr.add]
        split
        · next h => rw [h]; rfl
        · rfl
      · have hi' : k + i < ls.length := by simp at hi; omega
        obtain ⟨ai, ci, h1, h2⟩ := hc (k + i) hi'
        have e : (ls.drop k).getD i [] = ls.getD (k + i) [] := by simp
        rw [e]
        exact ⟨ai, ci, by rw [Nat.add_assoc]; exact h1, h2⟩
/-! ### Behind a cut -/
theorem fit_boot (ask : Int) (bt : Nat) (h : ask ≤ (bt : Int)) : ∀ (rs : List (Nat × List Nat)) (lb : Nat), lb ≤ bt → (∀ y ∈ rs, y.1 = bt) → Fit (mfits ask) lb rs
  | [], _, _, _ => trivial
  | y :: rs, lb, h1, h2 => by
    have e := h2 y (by simp)
    refine ⟨?_, ?_⟩
    · unfold mfits
      rw [e, decide_eq_true h, decide_eq_true h1]
      rfl
    · rw [e]
      exact fit_boot ask bt h rs bt (Nat.le_refl _) (fun z hz => h2 z (by simp [hz]))
theorem boot_le (bt : Nat) : ∀ (rs : List (Nat × List Nat)) (lb : Nat), lb ≤ bt → (∀ y ∈ rs, y.1 = bt) → bootOf lb rs ≤ bt
  | [], _, h, _ => h
  | y :: rs, lb, h, h2 => by
    have e := h2 y (by simp)
    unfold bootOf
    rw [List.foldl_cons, e]
    exact boot_le bt rs bt (Nat.le_refl _) (fun z hz => h2 z (by simp [hz]))
/-- What lies behind the first ones. -/
theorem more_cut {w : World} {g q p x : Nat} {d : Dk} {k mm : Nat} {segs : List Nat} {P D : List (Nat × List Nat)} (h : LogIs w g q p x d k mm segs (P ++ D)) (bt : Nat) (hbt : ∀ y ∈ P ++ D, y.1 = bt) (ask : Int) :
    At (pl d segs) 0 (lay 0 0 P) ∧ (∀ y ∈ P, Ok y) ∧ lenOf P ≤ 8 * segs.length ∧
    scan (mfits ask) (pl d segs) (8 * segs.length - lenOf P) (lastOf 0 P) (bootOf 0 P) (lenOf P) (8 * segs.length - lenOf P) = if ask ≤ (bt : Int) then D else [] := by
  have hat := h.at_
  rw [lay_app] at hat
  have hl := hat.left
  have hr := hat.right
  rw [lay_len, Nat.zero_add] at hr
  have hfit := h.sys.fit
  rw [lenOf_app] at hfit
  refine ⟨hl, fun y hy => h.ok y (by simp [hy]), by omega, ?_⟩
  have hblank : ∀ n, n = lenOf P + lenOf D → 0 < 8 * segs.length - n → pl d segs n = zeros := fun n hn h0 => by
    refine h.blank _ (num_lt h.sys.has (by omega)) fun j hj e => ?_
    rw [lenOf_app] at hj
    have := num_inj h.nodup (by omega) (by omega) e
    omega
  by_cases ha : ask ≤ (bt : Int)
  · rw [if_pos ha]
    have hll := len_le D
    obtain ⟨f, hf⟩ : ∃ f, 8 * segs.length - lenOf P = D.length + f := ⟨8 * segs.length - lenOf P - D.length, by omega⟩
    have hs := scan_lay (fits := mfits ask) D f (lastOf 0 P) (bootOf 0 P) (lenOf P) (8 * segs.length - lenOf P) (fun y hy => h.ok y (by simp [hy])) (fit_boot ask bt ha D _ (boot_le bt P 0 (Nat.zero_le _) (fun y hy => hbt y (by simp [hy]))) (fun y hy => hbt y (by simp [hy]))) hr (by omega)
    rw [← hf] at hs
    rw [hs, scan_blank (fun h0 => hblank _ rfl (by omega)), List.append_nil]
  · rw [if_neg ha]
    cases D with
    | nil => exact scan_blank (fun h0 => by have := hblank (lenOf P) (by simp [lenOf_nil]) h0; exact this)
    | cons y D =>
      obtain ⟨b, r⟩ := y
      have hb : b = bt := hbt (b, r) (by simp)
      rw [lenOf_cons] at hfit
      obtain ⟨h1, h2⟩ := whole_of (m := 8 * segs.length - lenOf P) (h.ok (b, r) (by simp)) hr.left (by simp only at hfit; omega)
      refine scan_no _ h1 fun e => ?_
      have := e.1
      unfold mfits at this
      rw [hb, decide_eq_false ha, Bool.false_and] at this
      cases this
end Go.Proofs.Yteohjfhflodklaa
