/- A store whose maps are made: one piece more, one number more, one less. No condition. -/
import Derived.Test.YtccahhehbpahoaaCkF
namespace Go.Proofs.Ytccahhehbpahoaa
open Go.ChangeShapes Go.WideShapes Go.ChangeAt Go.RowKit
open Go.Maps (keyOf_int_mk)
open Crc (nx nx_lt)
set_option maxRecDepth 4000
set_option linter.unusedVariables false
/-- Both maps are there; the pieces' is of psA, the numbers' of psB. -/
structure Parts (base : Nat) (w : World) (q n : Nat) (psA psB : Ps) (last : Nat) (bp bn : Nat) (f g : Int → Option Value) : Prop where
  at_ : w.heap[q]? = some (.cells #[.map (some bp), .map (some bn), .int .i64 (last : Int)] 81 (0, 0))
  lp : base ≤ bp
  ln : base ≤ bn
  ne : bp ≠ bn
  mp : MapIs w 3 .i64 bp n f
  mn : MapIs w 94 .u32 bn n g
  pc : Pieces base w psA f
  nm : Nums base w psB g
variable {base : Nat} {w : World} {q n : Nat} {psA psB ps : Ps} {last bp bn : Nat} {f g : Int → Option Value}
theorem Parts.kept {w' : World} (h : Parts base w q n psA psB last bp bn f g) (hk : Kept q base w w') : Parts base w' q n psA psB last bp bn f g := by
  refine ⟨hk.keep q _ h.at_ (.inl rfl) (.inr ⟨_, 81, _, rfl, by simp⟩), h.lp, h.ln, h.ne, h.mp.keep ?_, h.mn.keep ?_, h.pc.keep fun k cs m hb h => hk.keep k _ h (.inr hb) (.inr ⟨cs, 5, m, rfl, by simp⟩), h.nm.keep fun k cs m hb h => hk.keep k _ h (.inr hb) (.inr ⟨cs, 3, m, rfl, by simp⟩)⟩
  · obtain ⟨es, c, hm⟩ := h.mp.is_map
    rw [hm]
    exact hk.keep bp _ hm (.inr h.lp) (.inl ⟨es, c, rfl⟩)
  · obtain ⟨es, c, hm⟩ := h.mn.is_map
    rw [hm]
    exact hk.keep bn _ hm (.inr h.ln) (.inl ⟨es, c, rfl⟩)
theorem Parts.below {w' : World} (h : Parts base w q n psA psB last bp bn f g) (hb : Below w.heap.size w w') : Parts base w' q n psA psB last bp bn f g := h.kept (.of_below hb)
theorem Parts.cells (h : Parts base w q n psA psB last bp bn f g) : w.cell? ⟨q, 0, none⟩ = some (.map (some bp)) ∧ w.cell? ⟨q, 1, none⟩ = some (.map (some bn)) ∧ w.cell? ⟨q, 2, none⟩ = some (.int .i64 (last : Int)) ∧ ∀ i, w.frozen? ⟨q, i, none⟩ = false := by
  refine ⟨?_, ?_, ?_, fun i => frozen_of_row w q i _ 81 h.at_⟩
  · rw [cell_of_row w q 0 _ 81 (0, 0) h.at_]; rfl
  · rw [cell_of_row w q 1 _ 81 (0, 0) h.at_]; rfl
  · rw [cell_of_row w q 2 _ 81 (0, 0) h.at_]; rfl
theorem Parts.lt (h : Parts base w q n psA psB last bp bn f g) : q < w.heap.size := lt_of_some h.at_
theorem map_ne {w : World} {b k : Nat} {es : Array MapEntry} {c : Nat} {cs : Array Value} {t : TypeId} {m : Nat × Nat} (h : w.heap[b]? = some (.map es c)) (h1 : w.heap[k]? = some (.cells cs t m)) : k ≠ b := by
  intro e
  subst e
  rw [h] at h1
  cases h1
/-- What a store into a map of the store's leaves. -/
theorem chg_map {w' : World} {b : Nat} (hb : base ≤ b) {es : Array MapEntry} {c : Nat} (hm : w.heap[b]? = some (.map es c)) (hg : w.grownBy w' (some b)) : Chg q base w w' :=
  ⟨hg.os, hg.tape, hg.output, hg.size, fun k o hk hlt _ => (hg.block k (lt_of_some hk) (by simp; omega)).trans hk, fun k cs t m hk _ _ => (hg.block k (lt_of_some hk) (by have := map_ne hm hk; simpa using this)).trans hk⟩
theorem kept_cells {w' : World} {b : Nat} {es : Array MapEntry} {c : Nat} (hm : w.heap[b]? = some (.map es c)) (hg : w.grownBy w' (some b)) {k : Nat} {cs : Array Value} {t : TypeId} {m : Nat × Nat} (h1 : w.heap[k]? = some (.cells cs t m)) : w'.heap[k]? = some (.cells cs t m) :=
  (hg.block k (lt_of_some h1) (by have := map_ne hm h1; simpa using this)).trans h1
/-- One piece more. -/
theorem Parts.piece (h : Parts base w q n ps psB last bp bn f g) (id : Nat) (l : List Nat) (hid : id < 9223372036854775808) (hno : byId ps (id : Int) = none) (hn : n ≤ 1000000) (v : Value) (hv : PieceAt base w l v) :
    ∃ w', (Instr.mapUpdate 78 (.map (some bp)) (.int .i64 (id : Int)) v).run Try.prog w = .ok () w' ∧ Parts base w' q (n + 1) (ps ++ [(id, l)]) psB last bp bn (upd f (id : Int) (some v)) g ∧ Chg q base w w' := by
  obtain ⟨es, c, hm⟩ := h.mp.is_map
  obtain ⟨w', h1, h2, h3, h4⟩ := h.mp.store (t := 78) Try.underlying3 Try.underlying78 (id : Int) (i64_wf (by omega) (by omega)) v hn
  refine ⟨w', h1, ⟨kept_cells hm h3 h.at_, h.lp, h.ln, h.ne, h2, (h.mn.keep (h3.block bn h.mn.lt (by have := h.ne; simp; omega))).mono (by omega), fun a => ?_, h.nm.keep fun k cs m _ hk => kept_cells hm h3 hk⟩, chg_map h.lp hm h3⟩
  rw [byId_add hno]
  unfold upd
  by_cases e : a = (id : Int)
  · rw [if_pos e, if_pos e]
    refine ⟨by simp, fun b hb => ?_⟩
    cases hb
    exact ⟨v, rfl, hv.keep fun k cs m _ hk => kept_cells hm h3 hk⟩
  · rw [if_neg e, if_neg e]
    refine ⟨(h.pc a).1, fun b hb => ?_⟩
    obtain ⟨u, hu, hp⟩ := (h.pc a).2 b hb
    exact ⟨u, hu, hp.keep fun k cs m _ hk => kept_cells hm h3 hk⟩
/-- Under a sum: the row that is there, or nil. -/
theorem Nums.row (h : Nums base w ps g) (c : Int) : ∃ v, (g c).getD (.slice none 0 0) = v ∧ w.ownsRow base 3 1 v (those ps c).length (ivals (those ps c)) ∧ ∀ (c' : Int) v', c' ≠ c → g c' = some v' → v'.ownBlock = none ∨ v'.ownBlock ≠ v.ownBlock := by
  cases hg : g c with
  | none =>
    refine ⟨_, rfl, ?_, fun c' v' _ _ => ?_⟩
    · rw [h.no c hg]; exact World.ownsRow_nil _ _ 3 1
    · cases hb : v'.ownBlock with
      | none => exact .inl rfl
      | some b => exact .inr (by simp [Value.ownBlock])
  | some v => exact ⟨v, rfl, h.yes c v hg, fun c' v' hne hg' => h.apart c' c v' v hne hg' hg⟩
theorem owns_in {w : World} {b t z k : Nat} {v : Value} {xs : List Value} (h : w.ownsRow b t z v k xs) {g : Nat} (hg : v.ownBlock = some g) : b ≤ g ∧ ∃ cur, w.heap[g]? = some (.cells cur t (0, 0)) := by
  rcases h.2 with ⟨rfl, _⟩ | ⟨g', cap, cur, rfl, hb, hg', _⟩
  · simp [Value.ownBlock] at hg
  · simp [Value.ownBlock] at hg
    subst hg
    exact ⟨hb, cur, hg'⟩
/-- One number more. -/
theorem Parts.number (h : Parts base w q n psA ps last bp bn f g) (id : Nat) (l : List Nat) (hid : id < 9223372036854775808) (hn : n ≤ 1000000) (hps : ps.length ≤ 1000000) (hbase : base ≤ w.heap.size) :
    ∃ v v' w6 w7, (Instr.lookup 79 (.map (some bn)) (.int .u32 ((nx 0 l : Nat) : Int)) false).run Try.prog w.drew = .ok v w.drew ∧
      (Instr.lookup 79 (.map (some bn)) (.int .u32 ((nx 0 l : Nat) : Int)) false).run Try.prog (w.drew.alloc (.cells #[.int .i64 (id : Int)] 3)) = .ok v (w.drew.alloc (.cells #[.int .i64 (id : Int)] 3)) ∧
      (Builtin.append_ #[42, 42] 42 #[v, .slice (some ⟨w.heap.size, 0, none⟩) 1 1]).run Try.prog (w.drew.alloc (.cells #[.int .i64 (id : Int)] 3)) = .ok v' w6 ∧
      (Instr.mapUpdate 79 (.map (some bn)) (.int .u32 ((nx 0 l : Nat) : Int)) v').run Try.prog w6 = .ok () w7 ∧
      (w.drew.alloc (.cells #[.int .i64 (id : Int)] 3)).cell? ⟨q, 1, none⟩ = some (.map (some bn)) ∧ w6.cell? ⟨q, 1, none⟩ = some (.map (some bn)) ∧ w7.cell? ⟨q, 1, none⟩ = some (.map (some bn)) ∧
      Parts base w7 q (n + 1) psA (ps ++ [(id, l)]) last bp bn f (upd g ((nx 0 l : Nat) : Int) (some v')) ∧ Chg q base w w7 := by
  have hc := u32_wf (nx_lt 0 l)
  generalize hcc : nx 0 l = c at *
  obtain ⟨v, hv, hown, hap⟩ := h.nm.row (c : Int)
  have hb1 : Below w.heap.size w (w.drew.alloc (.cells #[.int .i64 (id : Int)] 3)) := ((Below.refl _ w).drew).alloc (Nat.le_refl _) _
  have h1 := h.below hb1
  have hs1 : w.heap.size < (w.drew.alloc (.cells #[.int .i64 (id : Int)] 3)).heap.size := by simp
  have hy : (w.drew.alloc (.cells #[.int .i64 (id : Int)] 3)).heap[w.heap.size]? = some (.cells #[.int .i64 (id : Int)] 3 (0, 0)) := heap_alloc_new w.drew _
  have hown1 := owns_keep hown fun k cur _ _ hk => (hb1.block k (lt_of_some hk)).trans hk
  have l0 := (((h.below (Below.refl _ w).drew)).mn.look (t := 79) Try.underlying94 Try.underlying79 zero39 (c : Int) hc).2
  have l1 := (h1.mn.look (t := 79) Try.underlying94 Try.underlying79 zero39 (c : Int) hc).2
  rw [hv] at l0 l1
  have hlen : (those ps (c : Int)).length ≤ 1000000 := Nat.le_trans (those_le _ _) hps
  generalize hW1 : w.drew.alloc (.cells #[.int .i64 (id : Int)] 3) = W1 at *
  obtain ⟨g3, cap3, w6, hrun, ho6, hg6, hat6⟩ := app_one W1 42 3 42 8 (.int .i64 0) Try.underlying42 info3 rfl (by decide) base v _ _ hown1 w.heap.size (.int .i64 (id : Int)) hy rfl hlen (by omega)
  -- what the append leaves
  have hvb : ∀ b, v.ownBlock = some b → base ≤ b ∧ ∃ cur, W1.heap[b]? = some (.cells cur 3 (0, 0)) := fun b hb => owns_in hown1 hb
  have keep6 : ∀ (k : Nat) (o : Obj), W1.heap[k]? = some o → (∀ cur : Array Value, o ≠ Obj.cells cur 3 (0, 0)) → w6.heap[k]? = some o := fun k o hk ho => by
    refine (hg6.block k (lt_of_some hk) ?_).trans hk
    intro e
    obtain ⟨_, cur, hcur⟩ := hvb k e.symm
    rw [hk] at hcur
    exact ho cur (Option.some.inj hcur)
  obtain ⟨esp, cp, hmp⟩ := h1.mp.is_map
  obtain ⟨esn, cn, hmn⟩ := h1.mn.is_map
  have hmp6 := keep6 bp _ hmp (by intro cur e; cases e)
  have hmn6 := keep6 bn _ hmn (by intro cur e; cases e)
  have hq6 := keep6 q _ h1.at_ (by intro cur e; injection e with _ e2; exact absurd e2 (by decide))
  have mn6 : MapIs w6 94 .u32 bn n g := h1.mn.keep (hmn6.trans hmn.symm)
  obtain ⟨w7, hupd, mn7, hg7, _⟩ := mn6.store (t := 79) Try.underlying94 Try.underlying79 (c : Int) hc (.slice (some ⟨g3, 0, none⟩) ((those ps (c : Int)).length + 1) cap3) hn
  have at7 := kept_cells hmn6 hg7 hq6
  have ch6 : Chg q base W1 w6 := ⟨hg6.os, hg6.tape, hg6.output, hg6.size, fun k o hk hlt _ => (hg6.block k (lt_of_some hk) (fun e => by have := (hvb k e.symm).1; omega)).trans hk, fun k cs t m hk _ h3 => keep6 k _ hk (by intro cur e; injection e with _ e2; exact h3 e2)⟩
  have ch7 : Chg q base w6 w7 := chg_map h.ln hmn6 hg7
  have chall : Chg q base w w7 := ((Chg.of_below hb1).trans ch6).trans ch7
  -- the rows
  have sat : ∀ (c' : Int) v', c' ≠ (c : Int) → g c' = some v' → w7.ownsRow base 3 1 v' (those ps c').length (ivals (those ps c')) := fun c' v' hne hg' => by
    refine owns_keep (h1.nm.yes c' v' hg') fun k cur hk _ hcur => kept_cells hmn6 hg7 ((hg6.block k (lt_of_some hcur) ?_).trans hcur)
    rcases hap c' v' hne hg' with e | e
    · rw [hk] at e; cases e
    · rw [← hk]; exact e
  have own7 : w7.ownsRow base 3 1 (.slice (some ⟨g3, 0, none⟩) ((those ps (c : Int)).length + 1) cap3) ((those ps (c : Int)).length + 1) (ivals (those ps (c : Int)) ++ [.int .i64 (id : Int)]) := owns_keep ho6 fun k cur _ _ hk => kept_cells hmn6 hg7 hk
  refine ⟨v, _, w6, w7, l0, l1, hrun, hupd, ?_, ?_, ?_, ⟨at7, h.lp, h.ln, h.ne, (h1.mp.keep (((hg7.block bp (lt_of_some hmp6) (by have := h.ne; simp; omega)).trans hmp6).trans hmp.symm)).mono (by omega), mn7, ?_, ?_⟩, chall⟩
  · rw [cell_of_row W1 q 1 _ 81 (0, 0) h1.at_]; rfl
  · rw [cell_of_row w6 q 1 _ 81 (0, 0) hq6]; rfl
  · rw [cell_of_row w7 q 1 _ 81 (0, 0) at7]; rfl
  · exact h1.pc.keep fun k cs m _ hk => kept_cells hmn6 hg7 (keep6 k _ hk (by intro cur e; injection e with _ e2; exact absurd e2 (by decide)))
  · refine ⟨fun c' hc' => ?_, fun c' v' hc' => ?_, fun c1 c2 v1 v2 hne e1 e2 => ?_⟩
    · unfold upd at hc'
      by_cases e : c' = (c : Int)
      · rw [if_pos e] at hc'; cases hc'
      · rw [if_neg e] at hc'
        rw [those_add, hcc, if_neg (fun x => e x.symm)]
        exact h.nm.no c' hc'
    · unfold upd at hc'
      by_cases e : c' = (c : Int)
      · rw [if_pos e] at hc'
        cases hc'
        rw [those_add, hcc, if_pos e.symm, e, List.length_append, ivals_app]
        exact own7
      · rw [if_neg e] at hc'
        rw [those_add, hcc, if_neg (fun x => e x.symm)]
        exact sat c' v' e hc'
    · have newap : ∀ (c' : Int) v', c' ≠ (c : Int) → g c' = some v' → v'.ownBlock = none ∨ v'.ownBlock ≠ some g3 := fun c' v' hne' hg' => by
        cases hb : v'.ownBlock with
        | none => exact .inl rfl
        | some b =>
          refine .inr (fun e => ?_)
          cases e
          rcases hat6 with e6 | e6
          · rcases hap c' v' hne' hg' with x | x
            · rw [hb] at x; cases x
            · rw [hb, e6] at x; exact x rfl
          · obtain ⟨_, cur, hcur⟩ := owns_in (h1.nm.yes c' v' hg') hb
            have := lt_of_some hcur
            omega
      unfold upd at e1 e2
      by_cases x1 : c1 = (c : Int)
      · rw [if_pos x1] at e1
        rw [if_neg (by omega)] at e2
        cases e1
        rcases newap c2 v2 (by omega) e2 with y | y
        · cases hb : v2.ownBlock with
          | none => exact .inr (by simp [Value.ownBlock])
          | some b => rw [y] at hb; cases hb
        · exact .inr (fun z => y (by rw [← z]; rfl))
      · rw [if_neg x1] at e1
        by_cases x2 : c2 = (c : Int)
        · rw [if_pos x2] at e2
          cases e2
          exact newap c1 v1 x1 e1
        · rw [if_neg x2] at e2
          exact h.nm.apart c1 c2 v1 v2 hne e1 e2
end Go.Proofs.Ytccahhehbpahoaa
