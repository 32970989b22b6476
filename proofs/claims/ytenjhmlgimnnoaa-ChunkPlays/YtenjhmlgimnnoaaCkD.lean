/- slices.DeleteFunc of one number out of a row; one piece less, one number less. Condition: at most a million numbers. -/
import Derived.Test.YtenjhmlgimnnoaaCkI
namespace Go.Proofs.Ytenjhmlgimnnoaa
open Go.ChangeShapes Go.WideShapes Go.ChangeAt Go.RowKit Go.Maps Go.Sort Go.Shelf Go.Lib
open Crc (nx nx_lt)
set_option maxRecDepth 4000
set_option linter.unusedVariables false
theorem gives26 (a x : Int) (B : Nat) (W : World) (hc : W.cell? ⟨B, 0, none⟩ = some (.int .i64 a)) :
    FnGives Try.prog 26 #[.pointer (some ⟨B, 0, none⟩)] #[.int .i64 x] (.bool (decide (x = a))) W := by
  show Calls Try.prog 26 #[.int .i64 x, .pointer (some ⟨B, 0, none⟩)] W _
  by_cases h : x = a
  · have e : decide (x = a) = true := by simp [h]
    have e2 : (x == a) = true := by simp [h]
    rw [e]
    clear h e
    go_enter Try.func26, Try.ntmps26
    go_wp2_with fail
    go_ret
    exact ⟨rfl, 0, rfl⟩
  · have e : decide (x = a) = false := by simp [h]
    have e2 : (x == a) = false := by simp [h]
    rw [e]
    clear h e
    go_enter Try.func26, Try.ntmps26
    go_wp2_with fail
    go_ret
    exact ⟨rfl, 0, rfl⟩
theorem pred26 (a : Int) (B : Nat) (w : World) (hB : B < w.heap.size) (hcell : w.cell? ⟨B, 0, none⟩ = some (.int .i64 a)) :
    PredAt Try.prog 26 #[.pointer (some ⟨B, 0, none⟩)] (Value.int .i64) (fun x => decide (x = a)) w :=
  fun W x hb => gives26 a x B W ((hb.cell (p := ⟨B, 0, none⟩) hB).trans hcell)
theorem over26 (a : Int) (B blk off size : Nat) (w : World) (hB : B < w.heap.size) (hne : B ≠ blk) (hcell : w.cell? ⟨B, 0, none⟩ = some (.int .i64 a)) :
    PredOver Try.prog 26 #[.pointer (some ⟨B, 0, none⟩)] (Value.int .i64) (fun x => decide (x = a)) blk off size w :=
  fun n os dk x _ => gives26 a x B _ (by
    unfold sortWorld
    rw [cell?_grow _ _ _ (by show B < (putRow _ _ _ _ _).heap.size; rw [size_putRow]; exact hB), cell?_putRow_other _ _ blk off _ _ (Or.inl hne)]
    exact hcell)
theorem owns_prefix {w : World} {base e g n m cap : Nat} {xs : List Value} (h : w.ownsRow base e 1 (.slice (some ⟨g, 0, none⟩) n cap) n xs) (hm : m ≤ n) : w.ownsRow base e 1 (.slice (some ⟨g, 0, none⟩) m cap) m (xs.take m) := by
  rcases h.2 with ⟨h0, _⟩ | ⟨g', cap', cur, hv, hg, hc, h1, h2, h3, h4⟩
  · cases h0
  · cases hv
    have hl := h.1
    refine ⟨by rw [List.length_take, hl]; omega, .inr ⟨g, cap, cur, rfl, hg, hc, by omega, h2, h3, ?_⟩⟩
    rw [← h4, List.take_take]
    congr 1
    omega
theorem del_any {w : World} {base gr k cap : Nat} {L : List Int} (hL : L.length = k) (h : w.ownsRow base 3 1 (.slice (some ⟨gr, 0, none⟩) k cap) k (ivals L)) (hk : k ≤ 1000000) (a : Int) (B : Nat) (hB : B < w.heap.size) (hcell : w.cell? ⟨B, 0, none⟩ = some (.int .i64 a)) (hne : B ≠ gr) :
    Calls Try.prog 25 #[.slice (some ⟨gr, 0, none⟩) k cap, .func (.func 26) #[] #[.pointer (some ⟨B, 0, none⟩)]] w fun e w' => e = .returned (.slice (some ⟨gr, 0, none⟩) (L.filter fun x => !decide (x = a)).length cap) ∧
      w'.ownsRow base 3 1 (.slice (some ⟨gr, 0, none⟩) (L.filter fun x => !decide (x = a)).length cap) (L.filter fun x => !decide (x = a)).length (ivals (L.filter fun x => !decide (x = a))) ∧ w.grownBy w' (some gr) := by
  subst hL
  rcases h.2 with ⟨h0, _⟩ | ⟨g', cap', cur, hv, hg, hc, h1, h2, h3, h4⟩
  · cases h0
  cases hv
  have eg : ∀ args w, (callFunc 26 args).run Try.prog w = .ok (.enter 26 args) w := enters_of Try.func26 (by kernel_rfl) rfl
  have hH : Holds (Value.int .i64) w gr 0 L.toArray := holds_of_block_i hc (by rw [Nat.mul_one] at h4; exact h4)
  have hcon := AnyE.slices_DeleteFunc delA (Value.int .i64) (fun _ => rfl) (fun x => decide (x = a)) 26 #[.pointer (some ⟨B, 0, none⟩)] eg 0 Try.zeroValue3 gr 0 cap L.toArray w
    (pred26 a B w hB hcell) (over26 a B gr 0 _ w hB hne hcell) hH (by simp; omega) (by simpa using h1)
  change Calls Try.prog 25 _ _ _ at hcon
  simp only [List.size_toArray] at hcon
  refine hcon.mono ?_
  rintro e w' ⟨rfl, nq, rfl⟩
  have hle := List.length_filter_le (fun x => !decide (x = a)) L
  generalize hf : L.filter (fun x => !decide (x = a)) = F at *
  have hts : (F ++ List.replicate (L.length - F.length) (0 : Int)).length = L.length := by simp; omega
  have ho := ownsRow_sorted_i (n := nq) (os := #[]) hts hg hc h1 h2 h3
  have hgr := grownBy_sorted_i (w := w) (g := gr) (n := nq) (os := #[]) (F ++ List.replicate (L.length - F.length) (0 : Int)).toArray
  rw [grow_empty] at ho hgr
  refine ⟨rfl, ?_, hgr⟩
  have := owns_prefix ho hle
  rw [encZ_ivals, ivals_app] at this
  rw [List.take_left' (by simp [ivals_len])] at this
  exact this

/-! ### One less -/
variable {base : Nat} {w : World} {q n : Nat} {psA psB ps : Ps} {last bp bn : Nat} {f g : Int → Option Value}
theorem Parts.unpiece (h : Parts base w q n ps psB last bp bn f g) (a : Int) (hw : (Lit.int .i64 a).wf = true) :
    ∃ w', (∀ ty, (Builtin.delete_ #[52, 3] ty #[.map (some bp), .int .i64 a]).run Try.prog w = .ok (.tuple #[]) w') ∧ Parts base w' q n (without ps a) psB last bp bn (upd f a none) g ∧ Chg q base w w' ∧ w.grownBy w' (some bp) := by
  obtain ⟨es, c, hm⟩ := h.mp.is_map
  obtain ⟨w', h1, h2, h3, h4⟩ := h.mp.drop (t := 52) Try.underlying3 Try.underlying52 a hw
  refine ⟨w', h1, ⟨kept_cells hm h3 h.at_, h.lp, h.ln, h.ne, h2, (h.mn.keep (h3.block bn h.mn.lt (by have := h.ne; simp; omega))), fun x => ?_, h.nm.keep fun k cs m _ hk => kept_cells hm h3 hk⟩, chg_map h.lp hm h3, h3⟩
  rw [byId_less]
  unfold upd
  by_cases e : x = a
  · rw [if_pos e, if_pos e]
    exact ⟨fun _ => rfl, by simp⟩
  · rw [if_neg e, if_neg e]
    refine ⟨(h.pc x).1, fun b hb => ?_⟩
    obtain ⟨u, hu, hp⟩ := (h.pc x).2 b hb
    exact ⟨u, hu, hp.keep fun k cs m _ hk => kept_cells hm h3 hk⟩
/-- Behind the deletion of its number the row under a sum is stored anew; where it is empty it is struck. -/
theorem Parts.unnumber {last' : Nat} (h : Parts base w q n psA ps last bp bn f g) (hok : Ok ps last') (id : Nat) (l : List Nat) (hp : (id, l) ∈ ps) (hn : n ≤ 1000000) (gr k cap : Nat) (hg : g ((nx 0 l : Nat) : Int) = some (.slice (some ⟨gr, 0, none⟩) k cap))
    {w5 : World} (hg5 : w.grownBy w5 (some gr)) (ho5 : w5.ownsRow base 3 1 (.slice (some ⟨gr, 0, none⟩) (those (without ps id) ((nx 0 l : Nat) : Int)).length cap) (those (without ps id) ((nx 0 l : Nat) : Int)).length (ivals (those (without ps id) ((nx 0 l : Nat) : Int)))) :
    ∃ w6, (Instr.mapUpdate 53 (.map (some bn)) (.int .u32 ((nx 0 l : Nat) : Int)) (.slice (some ⟨gr, 0, none⟩) (those (without ps id) ((nx 0 l : Nat) : Int)).length cap)).run Try.prog w5 = .ok () w6 ∧
      w5.cell? ⟨q, 1, none⟩ = some (.map (some bn)) ∧ Parts base w6 q (n + 1) psA (without ps id) last bp bn f (upd g ((nx 0 l : Nat) : Int) (some (.slice (some ⟨gr, 0, none⟩) (those (without ps id) ((nx 0 l : Nat) : Int)).length cap))) ∧ Chg q base w w6 := by
  have hc := u32_wf (nx_lt 0 l)
  have hoth : ∀ c' : Int, c' ≠ ((nx 0 l : Nat) : Int) → those (without ps id) c' = those ps c' := fun c' hc' => those_other hok hp (fun e => hc' e.symm)
  generalize hcc : ((nx 0 l : Nat) : Int) = c at *
  have hown := h.nm.yes c _ hg
  obtain ⟨hgb, cur, hcur⟩ := owns_in hown (by simp [Value.ownBlock] : (Value.slice (some ⟨gr, 0, none⟩) k cap).ownBlock = some gr)
  have keep5 : ∀ (k : Nat) (o : Obj), w.heap[k]? = some o → (∀ cur : Array Value, o ≠ Obj.cells cur 3 (0, 0)) → w5.heap[k]? = some o := fun k o hk ho => by
    refine (hg5.block k (lt_of_some hk) ?_).trans hk
    intro e
    cases e
    rw [hk] at hcur
    exact ho cur (Option.some.inj hcur)
  obtain ⟨esp, cp, hmp⟩ := h.mp.is_map
  obtain ⟨esn, cn, hmn⟩ := h.mn.is_map
  have hmp5 := keep5 bp _ hmp (by intro cur e; cases e)
  have hmn5 := keep5 bn _ hmn (by intro cur e; cases e)
  have hq5 := keep5 q _ h.at_ (by intro cur e; injection e with _ e2; exact absurd e2 (by decide))
  have mn5 : MapIs w5 60 .u32 bn n g := h.mn.keep (hmn5.trans hmn.symm)
  obtain ⟨w6, hupd, mn6, hg6, _⟩ := mn5.store (t := 53) Try.underlying60 Try.underlying53 c hc (.slice (some ⟨gr, 0, none⟩) (those (without ps id) c).length cap) hn
  have at6 := kept_cells hmn5 hg6 hq5
  have ch5 : Chg q base w w5 := ⟨hg5.os, hg5.tape, hg5.output, hg5.size, fun k o hk hlt _ => (hg5.block k (lt_of_some hk) (fun e => by cases e; omega)).trans hk, fun k cs t m hk _ h3 => keep5 k _ hk (by intro cur e; injection e with _ e2; exact h3 e2)⟩
  have ch6 : Chg q base w5 w6 := chg_map h.ln hmn5 hg6
  refine ⟨w6, hupd, ?_, ⟨at6, h.lp, h.ln, h.ne, (h.mp.keep (((hg6.block bp (lt_of_some hmp5) (by have := h.ne; simp; omega)).trans hmp5).trans hmp.symm)).mono (by omega), mn6, ?_, ?_⟩, ch5.trans ch6⟩
  · rw [cell_of_row w5 q 1 _ 55 (0, 0) hq5]; rfl
  · exact h.pc.keep fun k cs m _ hk => kept_cells hmn5 hg6 (keep5 k _ hk (by intro cur e; injection e with _ e2; exact absurd e2 (by decide)))
  · refine ⟨fun c' hc' => ?_, fun c' v' hc' => ?_, fun c1 c2 v1 v2 hne e1 e2 => ?_⟩
    · unfold upd at hc'
      by_cases e : c' = c
      · rw [if_pos e] at hc'; cases hc'
      · rw [if_neg e] at hc'
        rw [hoth c' e]
        exact h.nm.no c' hc'
    · unfold upd at hc'
      by_cases e : c' = c
      · rw [if_pos e] at hc'
        cases hc'
        rw [e]
        exact owns_keep ho5 fun k cur _ _ hk => kept_cells hmn5 hg6 hk
      · rw [if_neg e] at hc'
        rw [hoth c' e]
        refine owns_keep (h.nm.yes c' v' hc') fun k cur hk _ hcur' => kept_cells hmn5 hg6 ((hg5.block k (lt_of_some hcur') ?_).trans hcur')
        intro e9
        cases e9
        rcases h.nm.apart c' c v' _ e hc' hg with x | x
        · rw [hk] at x; cases x
        · rw [hk] at x; exact x (by simp [Value.ownBlock])
    · have newap : ∀ (c' : Int) v', c' ≠ c → g c' = some v' → v'.ownBlock = none ∨ v'.ownBlock ≠ some gr := fun c' v' hne' hg' => by
        rcases h.nm.apart c' c v' _ hne' hg' hg with x | x
        · exact .inl x
        · exact .inr (fun e => x (by rw [e]; simp [Value.ownBlock]))
      unfold upd at e1 e2
      by_cases x1 : c1 = c
      · rw [if_pos x1] at e1
        rw [if_neg (by omega)] at e2
        cases e1
        rcases newap c2 v2 (by omega) e2 with y | y
        · cases hb : v2.ownBlock with
          | none => exact .inr (by simp [Value.ownBlock])
          | some b => rw [y] at hb; cases hb
        · exact .inr (fun z => y (by rw [← z]; rfl))
      · rw [if_neg x1] at e1
        by_cases x2 : c2 = c
        · rw [if_pos x2] at e2
          cases e2
          exact newap c1 v1 x1 e1
        · rw [if_neg x2] at e2
          exact h.nm.apart c1 c2 v1 v2 hne e1 e2
/-- An empty row is struck. -/
theorem Parts.strike (h : Parts base w q n psA ps last bp bn f g) (c : Int) (hw : (Lit.int .u32 c).wf = true) (he : those ps c = []) :
    ∃ w', (∀ ty, (Builtin.delete_ #[53, 60] ty #[.map (some bn), .int .u32 c]).run Try.prog w = .ok (.tuple #[]) w') ∧ Parts base w' q n psA ps last bp bn f (upd g c none) ∧ Chg q base w w' := by
  obtain ⟨es, c0, hm⟩ := h.mn.is_map
  obtain ⟨w', h1, h2, h3, h4⟩ := h.mn.drop (t := 53) Try.underlying60 Try.underlying53 c hw
  refine ⟨w', h1, ⟨kept_cells hm h3 h.at_, h.lp, h.ln, h.ne, h.mp.keep (h3.block bp h.mp.lt (by have := h.ne; simp; omega)), h2, h.pc.keep fun k cs m _ hk => kept_cells hm h3 hk, ⟨fun x hx => ?_, fun x v hx => ?_, fun c1 c2 v1 v2 hne e1 e2 => ?_⟩⟩, chg_map h.ln hm h3⟩
  · unfold upd at hx
    by_cases e : x = c
    · rw [e]; exact he
    · rw [if_neg e] at hx; exact h.nm.no x hx
  · unfold upd at hx
    by_cases e : x = c
    · rw [if_pos e] at hx; cases hx
    · rw [if_neg e] at hx
      exact owns_keep (h.nm.yes x v hx) fun k cur _ _ hk => kept_cells hm h3 hk
  · unfold upd at e1 e2
    by_cases x1 : c1 = c
    · rw [if_pos x1] at e1; cases e1
    · by_cases x2 : c2 = c
      · rw [if_pos x2] at e2; cases e2
      · rw [if_neg x1] at e1
        rw [if_neg x2] at e2
        exact h.nm.apart c1 c2 v1 v2 hne e1 e2
end Go.Proofs.Ytenjhmlgimnnoaa
