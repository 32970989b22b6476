/- What Cut of cut, the document's own Cut and the row of all ends answer. Condition: at most a million bytes. -/
import Derived.Test.YtjjhaohgbhekhaaCutB
namespace Go.Proofs.Ytjjhaohgbhekhaa
open Go.RowKit
set_option maxRecDepth 4000
set_option maxHeartbeats 1000000 in
theorem clone_new {w : World} (ad : Addr) (l : List Nat) (n cap : Nat) (hn : l.length = n) (hr : Row w (some ad) l) (hne : l ≠ []) (hl : l.length ≤ 900000000) :
    Calls Try.prog 16 #[.slice (some ad) n cap] w fun e w' => ∃ g cap', e = .returned (.slice (some ⟨g, 0, none⟩) n cap') ∧ Row w' (some ⟨g, 0, none⟩) l ∧ Below w.heap.size w w' ∧ n ≤ cap' ∧ w.heap.size ≤ g := by
  have HN : Hid (l.length = n) := hn
  have HR : Hid (Row (w.alloc (.cells #[] 5)) (some ad) l) := hr.below ((Below.refl _ w).alloc (Nat.le_refl _) _)
  have HOW : Hid ((w.alloc (.cells #[] 5)).ownsRow w.heap.size 5 1 (.slice (some ⟨w.heap.size, 0, none⟩) 0 0) ([] : List Nat).length (vals [])) := owns_empty w
  have HS : Hid (([] : List Nat).length + l.length ≤ 1000000000) := by show _ ≤ _; simp; omega
  have HB : Hid (w.heap.size ≤ (w.alloc (.cells #[] 5)).heap.size) := by show _ ≤ _; simp
  have hlt := hr.1
  have heq := fun w => eq_nil_some w ad n cap
  clear hn hr
  go_enter Try.func16, Try.ntmps16
  have tok : True := trivial
  go_wp2_with (at_builtin; have _t := tok; refine wpList_append_row _ rfl _ _ rfl w.heap.size (.slice (some ⟨w.heap.size, 0, none⟩) 0 0) [] rfl HOW.out _ l n cap rfl HN.out HR.out hne HS.out HB.out ?_; intro g m cap' w1 hm hown1 hg1 hat; rw [List.nil_append] at hm hown1; have HX := hid hown1; have HG := hid hg1; have HM := hid hm; clear tok hm hown1 hg1 hat)
  go_ret
  have e1 := HM.out
  subst e1
  obtain ⟨a, c, e, h1, h2, h3⟩ := row_of_owns HX.out hlt
  simp at e
  obtain ⟨rfl, rfl⟩ := e
  have hb := ((Below.refl w.heap.size w).alloc (Nat.le_refl _) (.cells #[] 5)).grown HG.out HB.out (fun k hk => by simp [Value.ownBlock] at hk; omega)
  refine ⟨g, cap', by rw [← HN.out]; rfl, h3, hb, by rw [← HN.out]; exact h1, ?_⟩
  rcases HX.out.2 with ⟨e, _⟩ | ⟨g', c', cur, e, hb', _⟩
  · simp at e
  · simp at e
    omega
theorem cuts_len_le (l : List Nat) : (cuts l).length ≤ l.length + 7 := by have := (cuts_many l).2; omega
set_option maxHeartbeats 2000000 in
theorem cut_any (a : Option Addr) (l : List Nat) (n cap : Nat) (w : World) (hn : l.length = n) (hcap : n ≤ cap) (hm : n ≤ 900000) (hr : Row w a l) :
    Calls Try.prog 9 #[.slice a n cap] w fun e w' => ∃ v, e = .returned v ∧ Recs (fun _ => True) w.heap.size w' v (cuts l) ∧ Below w.heap.size w w' := by
  have HN := hid hn
  have HC := hid hcap
  have HM := hid hm
  have h7 : (n : Int) ≤ 1000000 := by omega
  have HR := hid hr
  have HCU : Hid (cuts l = cutF l n 0) := by show cuts l = _; rw [← hn]; rfl
  clear hn hr hcap hm
  go_enter Try.func9, Try.ntmps9
  go_wp2_with fail
  go_loopg [3, 4] n (fun gk v4 v5 wr => ∃ f ps, n ≤ f + gk ∧ f ≤ n ∧ v5 = .int .i64 (f : Int) ∧ ps ++ cutF l gk f = cuts l ∧ Recs (fun _ => True) w.heap.size wr v4 ps ∧ Below w.heap.size w wr)
  case atStart => exact ⟨0, [], by omega, by omega, rfl, by rw [HCU.out]; rfl, recs_nil _ _ _, Below.refl _ _⟩
  case round =>
    obtain ⟨f, ps, hf1, hf2, rfl, hps, hre, hb⟩ := hrel
    obtain ⟨a9, c9, rfl⟩ := hre.slice
    have HF := hid (And.intro hf1 (And.intro hps hb))
    have HRE := hid hre
    clear hf1 hps hre hb
    by_cases hfn : f < n
    · have hii : (f : Int) < (n : Int) := by omega
      have HK := hid (ends_any a l n cap f wr HN.out HC.out (by have := HM.out; omega) (HR.out.below HF.out.2.2) hfn)
      have hlo := ends_lo (l := l) (f := f) (by have := HN.out; omega)
      have hhi := ends_hi (l := l) (f := f) (by have := HN.out; omega)
      rw [HN.out] at hhi
      have HST := hid (fun k => cutF_step l k f (by have := HN.out; omega))
      have HPL := hid (piece_len l f (by have := HN.out; omega))
      have HRW := hid (row_drop (row_take (HR.out.below HF.out.2.2) (ends l f)) f cap (by rw [List.length_take]; have := HN.out; have := HC.out; omega))
      obtain ⟨E, hE⟩ : ∃ E, ends l f = E := ⟨_, rfl⟩
      rw [hE] at HK hlo hhi HST HPL HRW
      obtain ⟨P, hP⟩ : ∃ P, (l.take E).drop f = P := ⟨_, rfl⟩
      rw [hP] at HST HPL HRW
      obtain ⟨b, off, haf, _⟩ := HRW.out.2.resolve_left (by intro e; have := HPL.out; rw [e] at this; simp at this; omega)
      have hsl := fun w => slice_mid w a n cap f E (by omega) (by have := HC.out; omega)
      rw [haf] at hsl HRW
      obtain ⟨L, hL⟩ : ∃ L, E - f = L := ⟨_, rfl⟩
      rw [hL] at hsl HPL
      have HLL : Hid (0 < L ∧ L ≤ 1000000) := ⟨by omega, by have := HM.out; omega⟩
      have hNE : P ≠ [] := by intro e; have h1 := HPL.out; rw [e] at h1; have h2 := HLL.out; simp at h1; omega
      have HNE := hid hNE
      have HPS : Hid (ps.length ≤ 1000000) := by
        have h1 := congrArg List.length HF.out.2.1
        have h2 := cuts_len_le l
        rw [List.length_append] at h1
        have := HN.out; have := HM.out
        show _ ≤ _
        omega
      clear hE hP haf hL hNE
      go_wp2_with fail
      refine HK.out.mono ?_
      rintro e w1 ⟨rfl, hw1⟩
      subst hw1
      have HCL := hid (clone_new ⟨b, off, none⟩ P L (cap - f) HPL.out HRW.out HNE.out (by rw [HPL.out]; have := HLL.out; omega))
      go_wp2_with fail
      refine HCL.out.mono ?_
      rintro e w2 ⟨gR, cR, rfl, hrow, hb2, _, hgR⟩
      have HROW := hid hrow
      have HVN : Hid ((Value.slice a9 ps.length c9).ownBlock ≠ some gR) := by
        intro e
        obtain ⟨xs, ho, _⟩ := HRE.out
        have := (owns_lt ho e).1
        omega
      have HRE2 := hid (HRE.out.below hb2)
      have HB2 : Hid (Below w.heap.size w w2) := HF.out.2.2.trans (hb2.mono HF.out.2.2.size)
      clear hrow hb2 HCL
      obtain ⟨xs, hox, hxx⟩ := HRE2.out
      have hal : Below w2.heap.size w2 (w2.alloc (.cells #[.slice (some ⟨gR, 0, none⟩) L cR] 22)) := (Below.refl _ w2).alloc (Nat.le_refl _) _
      have HO8 := hid (owns_below hox hal)
      have HXX := hid hxx
      have HXL : Hid (xs.length = ps.length) := by have := hox.1; show _ = _; omega
      have HY8 := hid (heap_alloc_new w2 (.cells #[.slice (some ⟨gR, 0, none⟩) L cR] 22))
      have hps := HPS.out
      have hbz : w.heap.size ≤ w2.heap.size := HB2.out.size
      clear hox hxx hal
      go_wp2_with (at_builtin; refine wpList_app_one _ 24 22 rfl _ _ rfl 24 (.slice none 0 0) Try.underlying24 info40s rfl (by decide) w.heap.size (.slice a9 ps.length c9) ps.length xs rfl HO8.out w2.heap.size (.slice (some ⟨gR, 0, none⟩) L cR) rfl HY8.out rfl (by omega) (by simp; omega) ?_; intro g9 cp9 w9 ho9 hg9 hat9; have HO9 := hid ho9; have HG9 := hid hg9; have HAT9 := hid hat9; clear ho9 hg9 hat9)
      go_roundg (gk - 1)
      case measure => have := HF.out.1; omega
      case rel =>
        have hg1 : gk - 1 + 1 = gk := by have := HF.out.1; omega
        refine ⟨E, ps ++ [P], by have := HF.out.1; omega, by omega, rfl, ?_, ?_, ?_⟩
        · rw [List.append_assoc, List.singleton_append, ← HST.out, hg1]; exact HF.out.2.1
        · have hfin := Recs.snoc (R := fun _ => True) (rs := ps) xs HXX.out HXL.out HROW.out HPL.out HNE.out trivial HVN.out HO9.out HG9.out HAT9.out
          exact hfin
        · refine Below.grown (HB2.out.alloc hbz _) HG9.out (by simp; omega) (fun k hk => owns_block HO8.out k hk)
    · have hii : ¬ (f : Int) < (n : Int) := by omega
      have HEQ : Hid (ps = cuts l) := by
        have := HF.out.2.1
        rw [cutF_end l gk f (by have := HN.out; omega), List.append_nil] at this
        exact this
      go_wp2_with fail
      go_ret
      refine ⟨_, rfl, ?_, HF.out.2.2⟩
      rw [← HEQ.out]
      exact HRE.out
set_option maxHeartbeats 2000000 in
theorem rcut_any (a : Option Addr) (l : List Nat) (n cap : Nat) (w : World) (hn : l.length = n) (hcap : n ≤ cap) (hm : n ≤ 900000) (hr : Row w a l) :
    Calls Try.prog 10 #[.slice a n cap] w fun e w' => ∃ v, e = .returned v ∧ Recs (fun _ => True) w.heap.size w' v (cuts l) ∧ Below w.heap.size w w' := by
  have HN := hid hn
  have HC := hid hcap
  have HM := hid hm
  have h7 : (n : Int) ≤ 1000000 := by omega
  have HR := hid hr
  have HCU : Hid (cuts l = cutF l n 0) := by show cuts l = _; rw [← hn]; rfl
  clear hn hr hcap hm
  go_enter Try.func10, Try.ntmps10
  go_wp2_with fail
  go_loopg [3, 4] n (fun gk v4 v5 wr => ∃ f ps, n ≤ f + gk ∧ f ≤ n ∧ v5 = .int .i64 (f : Int) ∧ ps ++ cutF l gk f = cuts l ∧ Recs (fun _ => True) w.heap.size wr v4 ps ∧ Below w.heap.size w wr)
  case atStart => exact ⟨0, [], by omega, by omega, rfl, by rw [HCU.out]; rfl, recs_nil _ _ _, Below.refl _ _⟩
  case round =>
    obtain ⟨f, ps, hf1, hf2, rfl, hps, hre, hb⟩ := hrel
    obtain ⟨a9, c9, rfl⟩ := hre.slice
    have HF := hid (And.intro hf1 (And.intro hps hb))
    have HRE := hid hre
    clear hf1 hps hre hb
    by_cases hfn : f < n
    · have hii : (f : Int) < (n : Int) := by omega
      have HK := hid (rends_any a l n cap f wr HN.out (by have := HM.out; omega) (HR.out.below HF.out.2.2) hfn)
      have hlo := ends_lo (l := l) (f := f) (by have := HN.out; omega)
      have hhi := ends_hi (l := l) (f := f) (by have := HN.out; omega)
      rw [HN.out] at hhi
      have HST := hid (fun k => cutF_step l k f (by have := HN.out; omega))
      have HPL := hid (piece_len l f (by have := HN.out; omega))
      have HRW := hid (row_drop (row_take (HR.out.below HF.out.2.2) (ends l f)) f cap (by rw [List.length_take]; have := HN.out; have := HC.out; omega))
      obtain ⟨E, hE⟩ : ∃ E, ends l f = E := ⟨_, rfl⟩
      rw [hE] at HK hlo hhi HST HPL HRW
      obtain ⟨P, hP⟩ : ∃ P, (l.take E).drop f = P := ⟨_, rfl⟩
      rw [hP] at HST HPL HRW
      obtain ⟨b, off, haf, _⟩ := HRW.out.2.resolve_left (by intro e; have := HPL.out; rw [e] at this; simp at this; omega)
      have hsl := fun w => slice_mid w a n cap f E (by omega) (by have := HC.out; omega)
      have HAF := hid haf
      rw [haf] at hsl HRW
      obtain ⟨L, hL⟩ : ∃ L, E - f = L := ⟨_, rfl⟩
      rw [hL] at hsl HPL
      have HLL : Hid (0 < L ∧ L ≤ 1000000) := ⟨by omega, by have := HM.out; omega⟩
      have hNE : P ≠ [] := by intro e; have h1 := HPL.out; rw [e] at h1; have h2 := HLL.out; simp at h1; omega
      have HNE := hid hNE
      have HPS : Hid (ps.length ≤ 1000000) := by
        have h1 := congrArg List.length HF.out.2.1
        have h2 := cuts_len_le l
        rw [List.length_append] at h1
        have := HN.out; have := HM.out
        show _ ≤ _
        omega
      clear hE hP haf hL hNE
      go_wp2_with fail
      refine HK.out.mono ?_
      rintro e w1 ⟨rfl, kd, hw1⟩
      have hbd : Below wr.heap.size wr w1 := by rw [hw1]; exact ⟨rfl, rfl, rfl, Nat.le_refl _, fun _ _ => rfl⟩
      have HRW := hid (HRW.out.below hbd)
      have HRE := hid (HRE.out.below hbd)
      have HF : Hid (n ≤ f + gk ∧ ps ++ cutF l gk f = cuts l ∧ Below w.heap.size w w1) := ⟨HF.out.1, HF.out.2.1, HF.out.2.2.trans (hbd.mono HF.out.2.2.size)⟩
      clear hw1 hbd
      obtain ⟨gR, hgR⟩ : ∃ gR, gR = b := ⟨_, rfl⟩
      obtain ⟨oR, hoR⟩ : ∃ oR, oR = off := ⟨_, rfl⟩
      obtain ⟨cR, hcR⟩ : ∃ cR, cR = cap - f := ⟨_, rfl⟩
      have HGL : Hid (b < w.heap.size) := by
        rcases HR.out.2 with h | ⟨b', o', e', hlt, _⟩
        · have := HN.out; rw [h] at this; simp at this; omega
        · rw [e', fromA_some (by have := HC.out; omega)] at HAF
          simp at HAF
          rw [← HAF.out.1]; exact hlt
      obtain ⟨w2, hw2⟩ : ∃ w2, w2 = w1 := ⟨_, rfl⟩
      rw [← hgR, ← hoR, ← hcR] at hsl
      rw [← hw2] at HRE HRW HF ⊢
      rw [← hgR, ← hoR] at HRW
      rw [← hgR] at HGL
      have HROW := hid HRW.out
      have HVN : Hid ((Value.slice a9 ps.length c9).ownBlock ≠ some gR) := by
        intro e
        obtain ⟨xs, ho, _⟩ := HRE.out
        have := (owns_lt ho e).2
        have := HGL.out
        omega
      have HRE2 := HRE
      have HB2 : Hid (Below w.heap.size w w2) := HF.out.2.2
      clear hgR hoR hcR hw2
      obtain ⟨xs, hox, hxx⟩ := HRE2.out
      have hal : Below w2.heap.size w2 (w2.alloc (.cells #[.slice (some ⟨gR, oR, none⟩) L cR] 22)) := (Below.refl _ w2).alloc (Nat.le_refl _) _
      have HO8 := hid (owns_below hox hal)
      have HXX := hid hxx
      have HXL : Hid (xs.length = ps.length) := by have := hox.1; show _ = _; omega
      have HY8 := hid (heap_alloc_new w2 (.cells #[.slice (some ⟨gR, oR, none⟩) L cR] 22))
      have hps := HPS.out
      have hbz : w.heap.size ≤ w2.heap.size := HB2.out.size
      clear hox hxx hal
      go_wp2_with (at_builtin; refine wpList_app_one _ 24 22 rfl _ _ rfl 24 (.slice none 0 0) Try.underlying24 info40s rfl (by decide) w.heap.size (.slice a9 ps.length c9) ps.length xs rfl HO8.out w2.heap.size (.slice (some ⟨gR, oR, none⟩) L cR) rfl HY8.out rfl (by omega) (by simp; omega) ?_; intro g9 cp9 w9 ho9 hg9 hat9; have HO9 := hid ho9; have HG9 := hid hg9; have HAT9 := hid hat9; clear ho9 hg9 hat9)
      go_roundg (gk - 1)
      case measure => have := HF.out.1; omega
      case rel =>
        have hg1 : gk - 1 + 1 = gk := by have := HF.out.1; omega
        refine ⟨E, ps ++ [P], by have := HF.out.1; omega, by omega, rfl, ?_, ?_, ?_⟩
        · rw [List.append_assoc, List.singleton_append, ← HST.out, hg1]; exact HF.out.2.1
        · have hfin := Recs.snoc (R := fun _ => True) (rs := ps) xs HXX.out HXL.out HROW.out HPL.out HNE.out trivial HVN.out HO9.out HG9.out HAT9.out
          exact hfin
        · refine Below.grown (HB2.out.alloc hbz _) HG9.out (by simp; omega) (fun k hk => owns_block HO8.out k hk)
    · have hii : ¬ (f : Int) < (n : Int) := by omega
      have HEQ : Hid (ps = cuts l) := by
        have := HF.out.2.1
        rw [cutF_end l gk f (by have := HN.out; omega), List.append_nil] at this
        exact this
      go_wp2_with fail
      go_ret
      refine ⟨_, rfl, ?_, HF.out.2.2⟩
      rw [← HEQ.out]
      exact HRE.out
set_option maxHeartbeats 2000000 in
theorem endsl_any (a : Option Addr) (l : List Nat) (n cap m : Nat) (w : World) (hn : l.length = n) (hcap : n ≤ cap) (hm : n ≤ 900000) (hmm : m ≤ 900000) (hr : Row w a l) :
    Calls Try.prog 15 #[.slice a n cap, .int .i64 (m : Int)] w fun e w' => ∃ v, e = .returned v ∧ w'.ownsRow w.heap.size 3 1 v (endZ l m).length (ivals (endZ l m)) ∧ Below w.heap.size w w' := by
  have HN := hid hn
  have HC := hid hcap
  have HM := hid hm
  have h7 : (n : Int) ≤ 900000 := by omega
  have h8 : (m : Int) ≤ 900000 := by omega
  have HR := hid hr
  have HCU : Hid (endL l = endF l n 0) := by show endL l = _; rw [← hn]; rfl
  have HZ : Hid (endZ l m = (endL l).map fun e : Nat => (e : Int) - (m : Int)) := rfl
  clear hn hr hcap hm hmm
  go_enter Try.func15, Try.ntmps15
  go_wp2_with fail
  go_loopg [5, 6] n (fun gk v5 v6 wr => ∃ f es, n ≤ f + gk ∧ f ≤ n ∧ v6 = .int .i64 (f : Int) ∧ es ++ endF l gk f = endL l ∧ es.length ≤ f ∧ wr.ownsRow w.heap.size 3 1 v5 es.length (ivals (es.map fun e : Nat => (e : Int) - (m : Int))) ∧ Below w.heap.size w wr)
  case atStart => exact ⟨0, [], by omega, by omega, rfl, by rw [HCU.out]; rfl, Nat.le_refl _, World.ownsRow_nil _ _ 3 1, Below.refl _ _⟩
  case round =>
    obtain ⟨f, es, hf1, hf2, rfl, hps, hel, hre, hb⟩ := hrel
    obtain ⟨a9, c9, rfl⟩ := owns_slice hre
    have HF := hid (And.intro hf1 (And.intro hps (And.intro hb hel)))
    have HRE := hid hre
    have hel2 : es.length ≤ 900000 := by omega
    clear hf1 hps hre hb hel
    by_cases hfn : f < n
    · have hii : (f : Int) < (n : Int) := by omega
      have HK := hid (ends_any a l n cap f wr HN.out HC.out (by have := HM.out; omega) (HR.out.below HF.out.2.2.1) hfn)
      have hlo := ends_lo (l := l) (f := f) (by have := HN.out; omega)
      have hhi := ends_hi (l := l) (f := f) (by have := HN.out; omega)
      rw [HN.out] at hhi
      have HST := hid (fun k => endF_step l k f (by have := HN.out; omega))
      obtain ⟨E, hE⟩ : ∃ E, ends l f = E := ⟨_, rfl⟩
      rw [hE] at HK hlo hhi HST
      clear hE
      obtain ⟨Z, hZ⟩ : ∃ Z : Int, (E : Int) - (m : Int) = Z := ⟨_, rfl⟩
      have HZZ := hid hZ
      have hal : Below wr.heap.size wr (wr.alloc (.cells #[.int .i64 Z] 3)) := (Below.refl _ wr).alloc (Nat.le_refl _) _
      have HO8 := hid (owns_below HRE.out hal)
      have HY8 := hid (heap_alloc_new wr (.cells #[.int .i64 Z] 3))
      have hbz : w.heap.size ≤ wr.heap.size := HF.out.2.2.1.size
      clear hal
      go_wp2_with fail
      refine HK.out.mono ?_
      rintro e w1 ⟨rfl, hw1⟩
      subst hw1
      go_wp2_with (at_builtin; refine wpList_app_one _ 30 3 rfl _ _ rfl 8 (.int .i64 0) Try.underlying30 info3 rfl (by decide) w.heap.size (.slice a9 es.length c9) es.length _ rfl HO8.out w1.heap.size (.int .i64 Z) rfl HY8.out rfl (by omega) (by simp; omega) ?_; intro g9 cp9 w9 ho9 hg9 hat9; have HO9 := hid ho9; have HG9 := hid hg9; clear ho9 hg9 hat9)
      go_roundg (gk - 1)
      case measure => have := HF.out.1; omega
      case rel =>
        have hg1 : gk - 1 + 1 = gk := by have := HF.out.1; omega
        refine ⟨E, es ++ [E], by have := HF.out.1; omega, by omega, rfl, ?_, by rw [List.length_append]; have := HF.out.2.2.2; simp; omega, ?_, ?_⟩
        · rw [List.append_assoc, List.singleton_append, ← HST.out, hg1]; exact HF.out.2.1
        · rw [List.length_append, List.map_append, ivals_app]
          have := HO9.out
          rw [← HZZ.out] at this
          exact this
        · refine Below.grown (HF.out.2.2.1.alloc hbz _) HG9.out (by simp; omega) (fun k hk => owns_block HO8.out k hk)
    · have hii : ¬ (f : Int) < (n : Int) := by omega
      have HEQ : Hid (es = endL l) := by
        have := HF.out.2.1
        rw [endF_end l gk f (by have := HN.out; omega), List.append_nil] at this
        exact this
      go_wp2_with fail
      go_ret
      refine ⟨_, rfl, ?_, HF.out.2.2.1⟩
      rw [endZ_len, HZ.out, ← HEQ.out]
      exact HRE.out
end Go.Proofs.Ytjjhaohgbhekhaa
