/- The document's Split, walked. No condition. -/
import Derived.Test.YtllgdfdiigjecaaDoorRefA
namespace Go.Proofs.YtllgdfdiigjecaaDoor
open Go.RowKit
set_option maxRecDepth 4000
theorem rsplit_walk (w : World) (r : Str) (hr : r ≠ []) (n : Nat) (hn : r.length + 1 = n) (h64 : n ≤ 64) :
    Calls Tryd.prog 9 #[.string (mk (47 :: r))] w fun e w' => SplitOut w' (splitP (47 :: r)) e ∧ Below w.heap.size w w' := by
  obtain ⟨s, hs⟩ : ∃ s, 47 :: r = s := ⟨_, rfl⟩
  have hsl : s.length = n := by rw [← hs]; simpa using hn
  have hsz : (mk s).size = n := by rw [mk_size, hsl]
  have htl : (mk s).toList = s := mk_toList s
  have hs47 : s ≠ [47] := by rw [← hs]; simpa using hr
  have hne : ∀ i, 0 < i → (s.take i).foldl stepP [] ≠ [] := by
    intro i hi
    rw [← hs]
    obtain ⟨j, rfl⟩ : ∃ j, i = j + 1 := ⟨i - 1, by omega⟩
    rw [List.take_succ_cons]
    exact fold_ne _ _
  have hall : s.foldl stepP [] = pieces r := by rw [← hs]; exact foldP_all r
  have h0 : s.getD 0 0 = 47 := by rw [← hs]; rfl
  have he : splitP s = if (pieces r).length ≤ 8 ∧ (pieces r).all nameB = true then some (pieces r) else none := by
    rw [← hs, splitP_cons, if_pos ⟨rfl, by omega⟩, if_neg hr]
  rw [hs]
  obtain ⟨S, hS⟩ : ∃ S, mk s = S := ⟨_, rfl⟩
  rw [hS] at hsz htl ⊢
  have g1 : (S.toList == [47]) = false := by rw [htl]; exact beq_eq_false_iff_ne.2 hs47
  have g2 : ((n : Int) == 0) = false := by rw [beq_eq_false_iff_ne]; omega
  have g3 : ¬ 64 < (n : Int) := by omega
  have hn0 : 0 < n := by omega
  have hgS : ∀ i (h : i < S.size), (S[i]'h).toNat = (s.getD i 0).toNat := by subst hS; exact get_mk s
  have hS0 : 0 < S.size := by omega
  have hget0 : (S[0]'hS0).toNat = 47 := by rw [hgS 0 hS0, h0]; rfl
  have hex : ∀ i, i < n → S.extract i (i + 1) = mk [s.getD i 0] := by
    intro i hi
    subst hS
    apply ByteArray.ext
    have hil : i < s.length := by omega
    simp [mk, List.getD_eq_getElem?_getD, List.extract_eq_take_drop, List.take_one, hil]
  have HSL := hid hsl
  have HNE := hid hne
  have HALL := hid hall
  have HE := hid he
  have HG := hid hgS
  have HEX := hid hex
  have H0 := hid h0
  have HN0 := hid hn0
  obtain ⟨o, ho⟩ : ∃ o, splitP s = o := ⟨_, rfl⟩
  rw [ho]
  have HO := hid ho
  clear hs htl hs47 hne hall h0 he hS hgS hex hsl hn hr ho hn0
  go_enter Tryd.func9, Tryd.ntmps9
  go_wp2_with fail
  clear g1 g2 g3 hget0
  go_loopg [4, 5] n (fun k v4 v5 wr => ∃ i : Nat, i ≤ n ∧ k = n - i ∧ v5 = .int .i64 i ∧ ∃ a m c, v4 = .slice a m c ∧ m ≤ i ∧ ((s.take i).foldl stepP []).length = m ∧ Hid (wr.ownsRow w.heap.size 9 1 (.slice a m c) ((s.take i).foldl stepP []).length (sv ((s.take i).foldl stepP []))) ∧ Hid (Below w.heap.size w wr))
  case atStart => exact ⟨0, by omega, by omega, rfl, none, 0, 0, rfl, Nat.le_refl _, rfl, hid (World.ownsRow_nil _ _ 9 1), hid (Below.refl _ _)⟩
  case round =>
    obtain ⟨i, hi, rfl, rfl, a, m, c, rfl, hmi, hpl, HOW, HB⟩ := hrel
    by_cases hlt : i < n
    · have hlt2 : i < S.size := by omega
      obtain ⟨b, hb⟩ : ∃ b, s.getD i 0 = b := ⟨_, rfl⟩
      have hgi : (S[i]'hlt2).toNat = b.toNat := by rw [HG.out i hlt2, hb]
      have hst := take_step s i (by rw [HSL.out]; exact hlt)
      rw [hb] at hst
      obtain ⟨p, hp⟩ : ∃ p, (s.take i).foldl stepP [] = p := ⟨_, rfl⟩
      rw [hp] at hst hpl HOW
      by_cases h47 : b = 47
      · subst h47
        have hg47 : (S[i]'hlt2).toNat = 47 := by rw [hgi]; rfl
        rw [step_sign] at hst
        have HST := hid hst
        have HPL := hid hpl
        have HLT := hid hlt
        have how := HOW.out
        rw [hpl] at how
        have HOW2 := hid (how.alloc (.cells #[.string ByteArray.empty] 9))
        have HBA := hid (HB.out.alloc HB.out.size (.cells #[.string ByteArray.empty] 9))
        clear hb hgi hst hp hpl how HOW
        go_wp2_with (at_builtin; refine wpList_app_one _ 23 9 rfl _ _ rfl 16 (.string ByteArray.empty) Tryd.underlying23 info9 rfl (by decide) w.heap.size _ m _ rfl HOW2.out wr.heap.size _ rfl (heap_alloc_new wr _) rfl (by omega) (Nat.le_trans HB.out.size (by simp)) ?_; intro g2 cp2 w2 ho2 hg2 hat2; have HO2 := hid ho2; have HG2 := hid hg2; clear ho2 hg2 hat2)
        go_roundg (n - (i + 1))
        case measure => have := HLT.out; omega
        case rel =>
          refine ⟨i + 1, by have := HLT.out; omega, by omega, by go_num, _, m + 1, cp2, rfl, by omega, ?_, ?_, ?_⟩
          · rw [HST.out, List.length_append, HPL.out]; rfl
          · rw [HST.out, sv_snoc, List.length_append, HPL.out]
            exact hid HO2.out
          · exact hid (HBA.out.grown HG2.out HBA.out.size (fun k e => (HOW2.out.lt k e).1))
      · have hn47 : ((b.toNat : Int) == 47) = false := by
          rw [beq_eq_false_iff_ne]
          intro e
          exact h47 (UInt8.toNat_inj.1 (by show b.toNat = 47; omega))
        have hi0 : 0 < i := by
          rcases Nat.eq_zero_or_pos i with e | e
          · subst e; exact absurd (hb.symm.trans H0.out) h47
          · exact e
        have hpne : p ≠ [] := by rw [← hp]; exact HNE.out i hi0
        obtain ⟨g, cp, hv, hbg, hgl⟩ := owns_some HOW.out hpne
        rw [hpl] at hv
        simp only [Value.slice.injEq, true_and] at hv
        obtain ⟨rfl, rfl⟩ := hv
        obtain ⟨q, rfl⟩ : ∃ q, m = q + 1 := ⟨m - 1, by have : p.length ≠ 0 := fun e => hpne (List.length_eq_zero_iff.1 e); omega⟩
        have how := HOW.out
        rw [hpl] at how
        have hcl := how.cellAt q (by omega)
        rw [sv_get p q (by omega)] at hcl
        have hfr := how.frozenAt q
        have hxl : (p.getD q []).length ≤ 2000 := by
          have := fold_short (s.take i) [] (by simp) (p.getD q []) (by
            rw [hp, List.getD_eq_getElem?_getD, List.getElem?_eq_getElem (by omega : q < p.length)]
            exact List.getElem_mem _)
          have h2 : (s.take i).length ≤ i := by rw [List.length_take]; omega
          omega
        rw [step_other h47 q hpl] at hst
        have hap : mk (p.getD q []) ++ mk [b] = mk (p.getD q [] ++ [b]) := mk_app _ _
        have hxs : (mk (p.getD q [])).size ≤ 2000 := by rw [mk_size]; exact hxl
        have hex := HEX.out i hlt
        rw [hb] at hex
        have hbs : (mk [b]).size = 1 := rfl
        obtain ⟨X, hX⟩ : ∃ X, mk (p.getD q []) = X := ⟨_, rfl⟩
        obtain ⟨B, hB⟩ : ∃ B, mk [b] = B := ⟨_, rfl⟩
        obtain ⟨Y, hY⟩ : ∃ Y, mk (p.getD q [] ++ [b]) = Y := ⟨_, rfl⟩
        rw [hX] at hcl hxs hap
        rw [hB] at hap hbs hex
        rw [hY] at hap
        obtain ⟨kx, hkx⟩ : ∃ kx, X.size = kx := ⟨_, rfl⟩
        rw [hkx] at hxs
        have hm1 : ((q + 1 : Nat) : Int) - 1 = (q : Int) := by omega
        have HST := hid hst
        have HPL := hid hpl
        have HLT := hid hlt
        have HYY := hid hY
        have HOW2 := hid how
        have HBB := hid hbg
        clear hb hst hp hpl how HOW hX hB hY hpne h47 hxl hbg hgl
        generalize hM : q + 1 = M at *
        go_wp2_with fail
        go_region
        go_wp2_with fail
        go_roundg (n - (i + 1))
        case measure => have := HLT.out; omega
        case rel =>
          obtain ⟨hs1, hs2⟩ := HOW2.out.stored q (.string Y)
          refine ⟨i + 1, by have := HLT.out; omega, by omega, by go_num, _, M, c, rfl, by omega, ?_, ?_, ?_⟩
          · rw [HST.out, List.length_set, HPL.out]
          · rw [HST.out, List.length_set, sv_set, HPL.out, HYY.out]
            exact hid hs1.drew
          · exact hid (HB.out.setCell HBB.out (.string Y)).drew
    · have hin : i = n := by omega
      subst hin
      have htk : s.take i = s := by rw [List.take_of_length_le (by rw [HSL.out]; exact Nat.le_refl _)]
      rw [htk, HALL.out] at hpl HOW
      obtain ⟨P, hP⟩ : ∃ P, pieces r = P := ⟨_, rfl⟩
      rw [hP] at hpl HOW HE
      have how := HOW.out
      rw [hpl] at how
      have HOW2 := hid how
      have HPL := hid hpl
      have htx := (texts_of HOW.out).2
      have HTX := hid htx
      clear hP htk hpl how HOW htx
      by_cases g8 : 8 < m
      · have g4 : 8 < (m : Int) := by omega
        clear g8
        go_wp2_with fail
        go_ret2
        refine ⟨?_, HB.out⟩
        rw [← HO.out, HE.out, if_neg (fun e => by have := HPL.out; omega)]
        exact out_none rfl
      · have g4 : ¬ 8 < (m : Int) := by omega
        have G8 := hid g8
        clear g8
        obtain ⟨w1, hw1⟩ : ∃ w1, wr = w1 := ⟨_, rfl⟩
        subst hw1
        go_wp2_with fail
        go_loopg [6] m (fun k v w2 => ∃ j : Nat, j ≤ m ∧ k = m - j ∧ v = .int .i64 j ∧ w2 = wr ∧ Hid (∀ x, x < j → nameB (P.getD x []) = true))
        case atStart => exact ⟨0, by omega, by omega, rfl, rfl, hid (fun j hj => by omega)⟩
        case round =>
          obtain ⟨j, hj, rfl, rfl, hw2, HQ⟩ := hrel
          subst hw2
          by_cases hlt : j < m
          · obtain ⟨b, off, rfl, hblt, hcell⟩ := HTX.out.2.at_ (by intro e; have := HPL.out; rw [e] at this; simp at this; omega)
            have hc1 := hcell j (by have := HPL.out; omega)
            obtain ⟨x, hx⟩ : ∃ x, P.getD j [] = x := ⟨_, rfl⟩
            rw [hx] at hc1
            have HX := hid hx
            clear hcell hblt hx
            go_wp2_with fail
            refine (rname_any _ x).mono ?_
            rintro e w3 ⟨rfl, rfl⟩
            cases hnb : nameB x with
            | false =>
              have HNB := hid hnb
              clear hnb
              go_wp2_with fail
              go_ret2
              refine ⟨?_, HB.out⟩
              have hall : P.all nameB = false := by
                rw [List.all_eq_false]
                have hil : j < P.length := by have := HPL.out; omega
                refine ⟨P.getD j [], ?_, by rw [HX.out, HNB.out]; simp⟩
                rw [List.getD_eq_getElem?_getD, List.getElem?_eq_getElem hil]
                exact List.getElem_mem hil
              rw [← HO.out, HE.out, if_neg (fun e => by rw [hall] at e; simp at e)]
              exact out_none rfl
            | true =>
              have HNB := hid hnb
              clear hnb
              go_wp2_with fail
              go_roundg (m - (j + 1))
              case measure => omega
              case rel =>
                refine ⟨j + 1, by omega, by omega, by go_num, rfl, hid (fun y hy => ?_)⟩
                by_cases e : y = j
                · subst e; rw [HX.out]; exact HNB.out
                · exact HQ.out y (by omega)
          · have hjm : j = m := by omega
            subst hjm
            go_wp2_with fail
            go_ret2
            refine ⟨?_, HB.out⟩
            have hall : P.all nameB = true := by
              rw [List.all_eq_true]
              intro x hx
              obtain ⟨y, hy, rfl⟩ := List.getElem_of_mem hx
              have := HQ.out y (by have := HPL.out; omega)
              rwa [List.getD_eq_getElem?_getD, List.getElem?_eq_getElem hy] at this
            rw [← HO.out, HE.out, if_pos ⟨by have := HPL.out; have := G8.out; omega, hall⟩]
            have hpm := HPL.out
            exact out_some a c (by rw [hpm]; rfl) HTX.out.1 HTX.out.2
end Go.Proofs.YtllgdfdiigjecaaDoor
