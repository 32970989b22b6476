/- Deeds as they come in; the law's own list of pieces in memory. No condition. -/
import Derived.Test.YtenjhmlgimnnoaaPuts
import Derived.Lib.SmallJoins
namespace Go.Proofs.Ytenjhmlgimnnoaa
open Go.ChangeShapes Go.WideShapes Go.ChangeAt Go.RowKit Go.Deep
set_option maxRecDepth 4000
set_option linter.unusedVariables false
structure Dd where
  do_ : Int
  n : Int
  b : List Nat
  a : Option Addr
  c : Nat
def dd0 : Dd := ⟨0, 0, [], none, 0⟩
def i64 (z : Int) : Prop := -9223372036854775808 ≤ z ∧ z < 9223372036854775808
def DeedAt (w : World) (b off : Nat) (d : Dd) : Prop :=
  w.cell? ⟨b, off, none⟩ = some (.int .i64 d.do_) ∧ w.cell? ⟨b, off + 1, none⟩ = some (.int .i64 d.n) ∧ w.cell? ⟨b, off + 2, none⟩ = some (.slice d.a d.b.length d.c) ∧ Row w d.a d.b ∧ i64 d.do_ ∧ i64 d.n
/-- The deeds ls lie where the slice that begins at a leads. -/
def Deeds (w : World) (a : Option Addr) (ls : List Dd) : Prop :=
  ls = [] ∨ ∃ b off, a = some ⟨b, off, none⟩ ∧ b < w.heap.size ∧ ∀ i, i < ls.length → DeedAt w b (off + i * 3) (ls.getD i dd0)
theorem Deeds.at_ {w : World} {a : Option Addr} {ls : List Dd} (h : Deeds w a ls) (hne : ls ≠ []) : ∃ b off, a = some ⟨b, off, none⟩ ∧ b < w.heap.size ∧ ∀ i, i < ls.length → DeedAt w b (off + i * 3) (ls.getD i dd0) := by
  rcases h with h | h
  · exact absurd h hne
  · exact h
theorem Deeds.below {w w' : World} {a : Option Addr} {ls : List Dd} (h : Deeds w a ls) (hb : Below w.heap.size w w') : Deeds w' a ls := by
  rcases h with h | ⟨b, off, ha, hlt, hc⟩
  · exact .inl h
  · refine .inr ⟨b, off, ha, Nat.lt_of_lt_of_le hlt hb.size, fun i hi => ?_⟩
    obtain ⟨h0, h1, h2, h4, h5⟩ := hc i hi
    have cell : ∀ k, w'.cell? ⟨b, k, none⟩ = w.cell? ⟨b, k, none⟩ := fun k => hb.cell (p := ⟨b, k, none⟩) hlt
    exact ⟨(cell _).trans h0, (cell _).trans h1, (cell _).trans h2, h4.below hb, h5⟩
theorem deed_of {H : Type} {enc : TypeId × Value → H} {w : World} {fuel : Nat} {cs : List Value} {x : DataW H × List MemPlace} (h : DataW.trod enc Try.prog w 0 (fun _ => true) true fuel 29 cs = some x) :
    ∃ d : Dd, cs = [.int .i64 d.do_, .int .i64 d.n, .slice d.a d.b.length d.c] ∧ Row w d.a d.b ∧ i64 d.do_ ∧ i64 d.n := by
  obtain ⟨y0, y1, y2, m, _, hlen, e0, e1, e2⟩ := Go.Deep.trod_struct3 Try.underlying29 h
  have hc29 : Try.prog.cellsOf 29 = 3 := by kernel_rfl
  have hc3 : Try.prog.cellsOf 3 = 1 := by kernel_rfl
  have hc27 : Try.prog.cellsOf 27 = 1 := by kernel_rfl
  rw [hc29] at hlen
  obtain ⟨c0, c1, c2, rfl⟩ : ∃ a b c, cs = [a, b, c] := by
    match cs, hlen with
    | [a, b, c], _ => exact ⟨a, b, c, rfl⟩
  dsimp only at e0 e1 e2
  rw [hc3] at e0 e1
  rw [hc27] at e2
  change DataW.trod enc Try.prog w 0 _ true m 3 [c0] = some y0 at e0
  change DataW.trod enc Try.prog w 0 _ true m 3 [c1] = some y1 at e1
  change DataW.trod enc Try.prog w 0 _ true m 27 [c2] = some y2 at e2
  obtain ⟨z0, q0, _, w0⟩ := DataW.trod_int Try.underlying3 e0
  obtain ⟨z1, q1, _, w1⟩ := DataW.trod_int Try.underlying3 e1
  have q0' : c0 = _ := List.head_eq_of_cons_eq q0
  have q1' : c1 = _ := List.head_eq_of_cons_eq q1
  subst q0' q1'
  have hi : ∃ a len cap zs, c2 = .slice a len cap ∧ IsRow .u8 w a len cap zs := by
    rcases open_ints Try.underlying27 Try.underlying5 (by kernel_rfl) e2 with ⟨hcs, _⟩ | ⟨x, l, c, zs, hcs, _, hl, hm, hz, _, hcell, hwz⟩
    · simp at hcs
      exact ⟨none, 0, 0, [], hcs, .inl ⟨rfl, rfl, rfl, rfl⟩⟩
    · simp at hcs
      exact ⟨some x, l, c, zs, hcs, .inr ⟨_, rfl, hl, hm, by simpa using hz, hcell, hwz⟩⟩
  obtain ⟨a, len, cap, zs, rfl, hi⟩ := hi
  obtain ⟨l, hl, hr, _⟩ := bytes_of hi
  have hb0 := bounds_i64 w0
  have hb1 := bounds_i64 w1
  refine ⟨⟨z0, z1, l, a, cap⟩, by rw [hl], hr, ⟨hb0.1, ?_⟩, ⟨hb1.1, ?_⟩⟩
  · show z0 < 9223372036854775808
    have := hb0.2; omega
  · show z1 < 9223372036854775808
    have := hb1.2; omega
theorem deeds_of {H : Type} {enc : TypeId × Value → H} {w : World} {fuel : Nat} {a : Option Addr} {len cap : Nat} {x : DataW H × List MemPlace} (h : DataW.trod enc Try.prog w 0 (fun _ => true) true fuel 22 (Value.slice a len cap).cells.toList = some x) :
    ∃ ls : List Dd, ls.length = len ∧ Deeds w a ls := by
  have hc29 : Try.prog.cellsOf 29 = 3 := by kernel_rfl
  rcases open_slice Try.underlying22 h with ⟨hcs, _⟩ | ⟨y, l, c, m, n, D, Pl, hcs, _, hl, hm, hmm, _, hx⟩
  · simp [Value.cells] at hcs
    obtain ⟨rfl, rfl, rfl⟩ := hcs
    exact ⟨[], rfl, .inl rfl⟩
  · simp [Value.cells] at hcs
    obtain ⟨rfl, rfl, rfl⟩ := hcs
    simp only [if_true] at hmm
    subst hmm
    rw [hc29] at hx
    have hrow : ∀ r, ∃ d : Dd, r < len → w.cell? (y.add (r * 3)) = some (.int .i64 d.do_) ∧ w.cell? ((y.add (r * 3)).add 1) = some (.int .i64 d.n) ∧ w.cell? ((y.add (r * 3)).add 2) = some (.slice d.a d.b.length d.c) ∧ Row w d.a d.b ∧ i64 d.do_ ∧ i64 d.n := by
      intro r
      by_cases hlt : r < len
      · obtain ⟨cs', h1, h2⟩ := hx r (by omega)
        obtain ⟨d, rfl, hr, hn⟩ := deed_of h2
        refine ⟨d, fun _ => ?_⟩
        unfold World.cells? at h1
        rw [if_pos (Nat.zero_le _)] at h1
        have g0 := mapM_some_get h1 0 0 rfl
        have g1 := mapM_some_get h1 1 1 rfl
        have g2 := mapM_some_get h1 2 2 rfl
        have ea : (y.add (r * 3)).add 0 = y.add (r * 3) := by simp [Addr.add]
        rw [ea] at g0
        exact ⟨g0, g1, g2, hr, hn⟩
      · exact ⟨dd0, fun h => absurd h hlt⟩
    obtain ⟨f, hf⟩ := Classical.axiomOfChoice hrow
    refine ⟨(List.range len).map f, by simp, ?_⟩
    by_cases h0 : len = 0
    · subst h0; exact .inl (by simp)
    · obtain ⟨b, off, spot⟩ := y
      have hc0 := (hf 0 (by omega)).1
      have hspot : spot = none := by simpa [Addr.add] using World.cell?_spot hc0
      subst hspot
      refine .inr ⟨b, off, rfl, ?_, fun i hi => ?_⟩
      · have := block_lt_of_cell hc0
        simpa [Addr.add] using this
      · have hi1 : i < len := by simpa using hi
        have hg : ((List.range len).map f).getD i dd0 = f i := by simp [hi1]
        have h5 := hf i hi1
        rw [Addr.add_mid, Addr.add_mid, Addr.add_mid] at h5
        rw [hg]
        exact h5

/-! ### The law's own list -/
def mvals (ps : Ps) : List Value := ps.flatMap fun p => [.int .i64 (p.1 : Int), .string (strOf p.2)]
theorem mvals_app (a b : Ps) : mvals (a ++ b) = mvals a ++ mvals b := by simp [mvals]
theorem mvals_len (ps : Ps) : (mvals ps).length = ps.length * 2 := by
  induction ps with
  | nil => rfl
  | cons p ps ih =>
    have : mvals (p :: ps) = .int .i64 (p.1 : Int) :: .string (strOf p.2) :: mvals ps := rfl
    rw [this]
    simp only [List.length_cons, ih]
    omega
theorem mvals_get (ps : Ps) (i : Nat) (hi : i < ps.length) : (mvals ps)[i * 2]? = some (.int .i64 ((ps.getD i (0, [])).1 : Int)) ∧ (mvals ps)[i * 2 + 1]? = some (.string (strOf (ps.getD i (0, [])).2)) := by
  induction ps generalizing i with
  | nil => simp at hi
  | cons p ps ih =>
    have e : mvals (p :: ps) = .int .i64 (p.1 : Int) :: .string (strOf p.2) :: mvals ps := rfl
    rw [e]
    cases i with
    | zero => exact ⟨rfl, rfl⟩
    | succ i =>
      have := ih i (by simpa using hi)
      have h2 : (i + 1) * 2 = i * 2 + 1 + 1 := by omega
      rw [h2]
      exact this
theorem mvals_one (ps : Ps) : ∀ u ∈ mvals ps, u.oneCell' = true := by
  intro u hu
  obtain ⟨p, _, h⟩ := List.mem_flatMap.1 hu
  simp at h
  rcases h with rfl | rfl <;> rfl
def MRow (B : Nat) (w : World) (v : Value) (ps : Ps) : Prop := w.ownsRow B 31 2 v ps.length (mvals ps)
theorem MRow.nil (B : Nat) (w : World) : MRow B w (.slice none 0 0) [] := World.ownsRow_nil _ _ 31 2
theorem MRow.below {B : Nat} {w w' : World} {v : Value} {ps : Ps} (h : MRow B w v ps) (hb : Below w.heap.size w w') : MRow B w' v ps :=
  owns_keep h fun k cur _ _ hk => (hb.block k (lt_of_some hk)).trans hk
theorem MRow.chg {B q base : Nat} {w w' : World} {v : Value} {ps : Ps} (h : MRow B w v ps) (hc : Chg q base w w') : MRow B w' v ps := hc.owns h (by decide) (by decide)
theorem MRow.cell {B : Nat} {w : World} {v : Value} {ps : Ps} (h : MRow B w v ps) {i : Nat} (hi : i < ps.length) : ∃ g cap, v = .slice (some ⟨g, 0, none⟩) ps.length cap ∧ g < w.heap.size ∧
    w.cell? ⟨g, i * 2, none⟩ = some (.int .i64 ((ps.getD i (0, [])).1 : Int)) ∧ w.cell? ⟨g, i * 2 + 1, none⟩ = some (.string (strOf (ps.getD i (0, [])).2)) := by
  rcases h.2 with ⟨_, h0⟩ | ⟨g, cap, cur, rfl, hb, hg, hc, hm, hs, ht⟩
  · rw [h0] at hi; exact absurd hi (Nat.not_lt_zero _)
  · obtain ⟨h1, h2⟩ := mvals_get ps i hi
    refine ⟨g, cap, rfl, lt_of_some hg, ?_, ?_⟩
    · rw [cell_of_row w g _ cur 31 (0, 0) hg]
      rw [← ht, List.getElem?_take, if_pos (by omega)] at h1
      simpa using h1
    · rw [cell_of_row w g _ cur 31 (0, 0) hg]
      rw [← ht, List.getElem?_take, if_pos (by omega)] at h2
      simpa using h2
theorem MRow.shape {B : Nat} {w : World} {v : Value} {ps : Ps} (h : MRow B w v ps) : ∃ a cap, v = .slice a ps.length cap ∧ ps.length ≤ cap := by
  rcases h.2 with ⟨rfl, h0⟩ | ⟨g, cap, cur, rfl, _, _, hc, _⟩
  · exact ⟨none, 0, by rw [h0], by omega⟩
  · exact ⟨_, cap, rfl, hc⟩
theorem info31 : (Try.prog.info? 31).map (fun i => (i.zero, i.size, i.bytes)) = some (some (.agg #[.int .i64 0, .string (ByteArray.mk #[])]), 2, 24) := by kernel_rfl
/-- An append onto the list. -/
theorem MRow.app {B : Nat} {W : World} {v : Value} {ps : Ps} (h : MRow B W v ps) (ty : TypeId) (y off : Nat) (qs : Ps) (m c : Nat) (hm : qs.length = m) (h0 : 0 < m) (hc : ∀ j u, (mvals qs)[j]? = some u → W.cell? ⟨y, off + j, none⟩ = some u) (hn : ps.length + m ≤ 100000) (hB : B ≤ W.heap.size) :
    ∃ g cap' w', (Builtin.append_ #[26, 26] ty #[v, .slice (some ⟨y, off, none⟩) m c]).run Try.prog W = .ok (.slice (some ⟨g, 0, none⟩) (ps.length + m) cap') w' ∧ MRow B w' (.slice (some ⟨g, 0, none⟩) (ps.length + m) cap') (ps ++ qs) ∧ W.grownBy w' v.ownBlock := by
  subst hm
  obtain ⟨i, hi5, hzz⟩ := Option.map_eq_some_iff.1 info31
  simp only [Prod.mk.injEq] at hzz
  obtain ⟨g, cap', w', hrun, h2, h3, _⟩ := run_append_lies (P := Try.prog) W 26 ty B 31 i (.agg #[.int .i64 0, .string (ByteArray.mk #[])]) 2 24 Try.underlying26 hi5 hzz.1 hzz.2.1 hzz.2.2 rfl (by decide) v ps.length (mvals ps) h ⟨y, off, none⟩ qs.length c (mvals qs) (mvals_len qs) (by
    intro j x hx
    have hadd : (⟨y, off, none⟩ : Addr).add j = ⟨y, off + j, none⟩ := by unfold Addr.add; split <;> simp_all
    rw [hadd]
    exact hc j x hx) (mvals_one qs) h0 (by unfold maxLen; omega) (by omega) hB _ rfl
  refine ⟨g, cap', w', hrun, ?_, h3⟩
  unfold MRow
  rw [mvals_app, List.length_append]
  exact h2
theorem MRow.app_none {B : Nat} {W : World} {v : Value} {ps : Ps} (h : MRow B W v ps) (ty : TypeId) (a : Option Addr) (cap : Nat) :
    (Builtin.append_ #[26, 26] ty #[v, .slice a 0 cap]).run Try.prog W = .ok v W := by
  have hl : ∀ x : Addr, (loadCells x 0).run Try.prog W = .ok #[] W := fun x => run_loadCells_list (P := Try.prog) W x [] (by simp)
  rcases h.2 with ⟨rfl, h0⟩ | ⟨g, c, cur, rfl, _, _, h, _⟩
  · cases a with
    | none => simp [Builtin.append_, run_underlying Try.underlying26, Builtin.lenOf, Builtin.firstCells]
    | some x => simp [Builtin.append_, run_underlying Try.underlying26, Builtin.lenOf, Builtin.firstCells, hl]
  · cases a with
    | none => simp [Builtin.append_, run_underlying Try.underlying26, Builtin.lenOf, Builtin.firstCells, h, storeCells]
    | some x => simp [Builtin.append_, run_underlying Try.underlying26, Builtin.lenOf, Builtin.firstCells, h, storeCells, hl]
/-- What an append onto the list leaves. -/
theorem grown31 {w w' : World} {B : Nat} {v : Value} {ps : Ps} (h : MRow B w v ps) (hg : w.grownBy w' v.ownBlock) :
    (∀ (k : Nat) (o : Obj), w.heap[k]? = some o → (∀ cur : Array Value, o ≠ Obj.cells cur 31 (0, 0)) → w'.heap[k]? = some o) ∧ w.heap.size ≤ w'.heap.size := by
  refine ⟨fun k o hk hne => (hg.block k (lt_of_some hk) ?_).trans hk, hg.size⟩
  intro e
  obtain ⟨_, cur, hc⟩ := owns_in h e.symm
  rw [hk] at hc
  exact hne cur (Option.some.inj hc)
theorem kept31 {q base : Nat} {w w' : World} {B : Nat} {v : Value} {ps : Ps} (h : MRow B w v ps) (hg : w.grownBy w' v.ownBlock) : Kept q base w w' :=
  ⟨(grown31 h hg).2, fun k o hk _ hp => (grown31 h hg).1 k o hk (by
    intro cur e
    subst e
    rcases hp with ⟨es, c, h⟩ | ⟨cs, t, m, h, ht⟩
    · cases h
    · injection h with _ e2
      rw [← e2] at ht
      exact absurd ht (by decide))⟩
theorem below31 {w w' : World} {B : Nat} {v : Value} {ps : Ps} (h : MRow B w v ps) (hg : w.grownBy w' v.ownBlock) (hb : B ≤ w.heap.size) : Below B w w' :=
  (Below.refl B w).grown hg hb (fun j hj => (owns_in h hj).1)

/-! ### Sought in the list -/
def hit (P : Nat × List Nat → Bool) (ps : Ps) : Nat → Int
  | 0 => -1
  | k + 1 => if P (ps.getD k (0, [])) then (k : Int) else hit P ps k
theorem hit_cases (P : Nat × List Nat → Bool) (ps : Ps) (k : Nat) : (hit P ps k = -1 ∧ ∀ j, j < k → P (ps.getD j (0, [])) = false) ∨ ∃ j : Nat, j < k ∧ hit P ps k = (j : Int) ∧ P (ps.getD j (0, [])) = true := by
  induction k with
  | zero => exact .inl ⟨rfl, fun j hj => absurd hj (Nat.not_lt_zero _)⟩
  | succ k ih =>
    unfold hit
    by_cases h : P (ps.getD k (0, [])) = true
    · rw [if_pos h]
      exact .inr ⟨k, by omega, rfl, h⟩
    · rw [if_neg h]
      rcases ih with ⟨h1, h2⟩ | ⟨j, h1, h2, h3⟩
      · refine .inl ⟨h1, fun j hj => ?_⟩
        by_cases e : j = k
        · subst e; simpa using h
        · exact h2 j (by omega)
      · exact .inr ⟨j, by omega, h2, h3⟩
theorem getD_mem {ps : Ps} {j : Nat} (hj : j < ps.length) : ps.getD j (0, []) ∈ ps := by
  rw [List.getD_eq_getElem?_getD, List.getElem?_eq_getElem hj]
  exact List.getElem_mem hj
theorem mem_getD {ps : Ps} {p : Nat × List Nat} (h : p ∈ ps) : ∃ j, j < ps.length ∧ ps.getD j (0, []) = p := by
  obtain ⟨j, hj, rfl⟩ := List.getElem_of_mem h
  exact ⟨j, hj, by rw [List.getD_eq_getElem?_getD, List.getElem?_eq_getElem hj]; rfl⟩
theorem text_hit {ps : Ps} {last : Nat} (h : Ok ps last) (l : List Nat) : (hit (fun p => decide (p.2 = l)) ps ps.length = -1 ∧ byText ps l = none) ∨ ∃ j : Nat, j < ps.length ∧ hit (fun p => decide (p.2 = l)) ps ps.length = (j : Int) ∧ byText ps l = some (ps.getD j (0, [])).1 := by
  rcases hit_cases (fun p => decide (p.2 = l)) ps ps.length with ⟨h1, h2⟩ | ⟨j, h1, h2, h3⟩
  · refine .inl ⟨h1, byText_none.2 fun p hp e => ?_⟩
    obtain ⟨j, hj, rfl⟩ := mem_getD hp
    exact absurd e (of_decide_eq_false (h2 j hj))
  · refine .inr ⟨j, h1, h2, ?_⟩
    have e := byText_mem h.txt (getD_mem h1)
    rw [of_decide_eq_true h3] at e
    exact e
theorem id_hit {ps : Ps} {last : Nat} (h : Ok ps last) (z : Int) : (hit (fun p => decide ((p.1 : Int) = z)) ps ps.length = -1 ∧ byId ps z = none) ∨ ∃ j : Nat, j < ps.length ∧ hit (fun p => decide ((p.1 : Int) = z)) ps ps.length = (j : Int) ∧ byId ps z = some (ps.getD j (0, [])).2 ∧ ((ps.getD j (0, [])).1 : Int) = z := by
  rcases hit_cases (fun p => decide ((p.1 : Int) = z)) ps ps.length with ⟨h1, h2⟩ | ⟨j, h1, h2, h3⟩
  · refine .inl ⟨h1, byId_none.2 fun p hp e => ?_⟩
    obtain ⟨j, hj, rfl⟩ := mem_getD hp
    have := h2 j hj
    rw [e] at this
    simp at this
  · refine .inr ⟨j, h1, h2, ?_, of_decide_eq_true h3⟩
    have e := byId_mem h.ids (getD_mem h1)
    rw [of_decide_eq_true h3] at e
    exact e
theorem without_cut {ps : Ps} {last : Nat} (h : Ok ps last) {j : Nat} (hj : j < ps.length) : without ps ((ps.getD j (0, [])).1 : Int) = ps.take j ++ ps.drop (j + 1) := by
  have hids := h.ids
  clear h
  induction ps generalizing j with
  | nil => simp at hj
  | cons p ps ih =>
    obtain ⟨h1, h2⟩ := List.pairwise_cons.1 hids
    cases j with
    | zero =>
      show without (p :: ps) (p.1 : Int) = ps
      unfold without
      rw [List.filter_cons_of_neg (by simp), List.filter_eq_self]
      intro r hr
      have := h1 r hr
      simp only [Bool.not_eq_true', decide_eq_false_iff_not]
      omega
    | succ j =>
      have hj' : j < ps.length := by simpa using hj
      have e : (p :: ps).getD (j + 1) (0, []) = ps.getD j (0, []) := rfl
      have hne : (p.1 : Int) ≠ ((ps.getD j (0, [])).1 : Int) := by
        have := h1 _ (getD_mem hj')
        omega
      have := ih hj' h2
      rw [e]
      unfold without at this ⊢
      rw [List.filter_cons_of_pos (by simpa using hne), this]
      rfl
theorem bytes_take (ps : Ps) (k : Nat) (hk : k < ps.length) : bytes (ps.take (k + 1)) = bytes (ps.take k) + (ps.getD k (0, [])).2.length := by
  rw [take_snoc ps k (0, []) hk]
  simp [bytes]
theorem ids_less {ps : Ps} {last : Nat} (h : Ok ps last) {k : Nat} (h0 : 0 < k) (hk : k < ps.length) : (idsOf ps).getD (k - 1) 0 < (idsOf ps).getD k 0 := by
  have hl := idsOf_len ps
  have := List.pairwise_iff_getElem.1 (idsOf_rise h) (k - 1) k (by omega) (by omega) (by omega)
  rw [List.getD_eq_getElem?_getD, List.getD_eq_getElem?_getD, List.getElem?_eq_getElem (by omega), List.getElem?_eq_getElem (by omega)]
  exact this

/-! ### Parts of the list -/
def fromB (a : Option Addr) (k cap : Nat) : Option Addr := if cap = k then a else a.map (·.add (k * 2))
theorem elem26 : Try.prog.elem 26 = 31 := by kernel_rfl
theorem size31 (w : World) : (sizeOf 31).run Try.prog w = .ok 2 w := by kernel_rfl
theorem slice_to26 (w : World) (a : Option Addr) (n cap k : Nat) (hk : k ≤ cap) : (Instr.slice 26 (.slice a n cap) none (some (.int .i64 (k : Int))) none).run Try.prog w = .ok (.slice a k cap) w := by
  rw [run_slice_h (ht := (by rw [elem26]; exact Try.underlying26 : Try.prog.underlying 26 = some (.slice (Try.prog.elem 26)))) (kh := .i64) (h := (k : Int)) (h0 := by omega) (h2 := by omega), elem26, size31]
  simp [sliced, Result.andThen, addr_add0]
theorem slice_from26 (w : World) (a : Option Addr) (n cap k : Nat) (hk : k ≤ n) : (Instr.slice 26 (.slice a n cap) (some (.int .i64 (k : Int))) none none).run Try.prog w = .ok (.slice (fromB a k cap) (n - k) (cap - k)) w := by
  rw [run_slice_l (ht := (by rw [elem26]; exact Try.underlying26 : Try.prog.underlying 26 = some (.slice (Try.prog.elem 26)))) (kl := .i64) (l := (k : Int)) (h0 := by omega) (h1 := by omega), elem26, size31]
  simp [sliced, Result.andThen, fromB]
end Go.Proofs.Ytenjhmlgimnnoaa
