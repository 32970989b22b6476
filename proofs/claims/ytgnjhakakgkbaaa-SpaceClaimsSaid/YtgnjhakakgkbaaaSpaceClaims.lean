/- SpaceClaims: what is claimed is not taken; all others are, from the least on. No condition. -/
import Derived.Test.YtgnjhakakgkbaaaUp
namespace Go.Proofs.Ytgnjhakakgkbaaa
open Go.ChangeShapes Go.WideShapes Go.ChangeAt Go.RowKit
/-- The statement's own marks: the first forty of t. -/
def onCells (t : List Bool) : List Value := (t.take 40).map Value.bool
structure OnAt (w : World) (g : Nat) (t : List Bool) : Prop where
  blk : w.heap[g]? = some (.cells (onCells t).toArray 40 (0, 0))
  len : t.length = 96
theorem OnAt.lt {w : World} {g : Nat} {t : List Bool} (h : OnAt w g t) : g < w.heap.size := (Array.getElem?_eq_some_iff.1 h.blk).1
theorem OnAt.c {w : World} {g : Nat} {t : List Bool} (h : OnAt w g t) (i : Nat) (hi : i < 40) : w.cell? ⟨g, i, none⟩ = some (.bool (t.getD i false)) := by
  have hl := h.len
  rw [cell_of_row w g _ _ 40 (0, 0) h.blk, onCells, List.getElem?_toArray, List.getElem?_map, List.getElem?_take, if_pos hi, List.getElem?_eq_getElem (by omega), List.getD_eq_getElem?_getD, List.getElem?_eq_getElem (by omega)]
  rfl
theorem OnAt.fr {w : World} {g : Nat} {t : List Bool} (h : OnAt w g t) (i : Nat) : w.frozen? ⟨g, i, none⟩ = false := frozen_of_row w g i _ 40 h.blk
theorem OnAt.set {w : World} {g : Nat} {t : List Bool} (h : OnAt w g t) (i : Nat) (b : Bool) : OnAt (w.setCell ⟨g, i, none⟩ (.bool b)) g (t.set i b) := by
  refine ⟨?_, by rw [List.length_set, h.len]⟩
  rw [heap_setCell_same _ _ _ _ _ _ h.blk]
  congr 2
  rw [onCells, onCells, List.setIfInBounds_toArray, ← List.map_set, List.take_set]
theorem OnAt.other {w w' : World} {g q : Nat} {t : List Bool} (h : OnAt w g t) (ho : Only q none w w') (hne : g ≠ q) : OnAt w' g t := ⟨(ho.block g h.lt hne (by simp)).trans h.blk, h.len⟩
theorem OnAt.drewN {w : World} {g : Nat} {t : List Bool} (h : OnAt w g t) (n : Nat) : OnAt (w.drewN n) g t := ⟨h.blk, h.len⟩
theorem info40 : (Try.prog.info? 40).map (fun i => (i.zero, i.size)) = some (some (.agg (onCells z96).toArray), 40) := by kernel_rfl
theorem run_alloc40 (w : World) : (Instr.alloc 40 true (.tuple #[])).run Try.prog w = .ok (.pointer (some ⟨w.heap.size, 0, none⟩)) (w.alloc (.cells (onCells z96).toArray 40)) := by
  have h := (zero_of_info info40).1
  simp [Instr.alloc, h, newVar, newRow, Value.cells]
set_option maxHeartbeats 4000000 in
theorem spaceClaims_walk (w : World) (a0 : Int) (w0 : (Lit.int .u8 a0).wf = true) (a1 : Option Addr) (len cap : Nat) (l : List (Fin 256)) (hr : ByteRow w a1 l) (hl : l.length = len) :
    Calls Try.prog 7 #[.int .u8 a0, .slice a1 len cap] w fun e w' => e = .returned (.bool true) ∧ Below w.heap.size w w' := by
  have hb0 := bounds_u8 w0
  obtain ⟨n, rfl⟩ : ∃ n : Nat, a0 = (n : Int) := ⟨a0.toNat, by omega⟩
  have hn : n < 256 := by omega
  clear w0 hb0
  obtain ⟨k, hK, hk⟩ : ∃ k : Nat, (n : Int) % 40 = (k : Int) ∧ k < 40 := ⟨n % 40, by omega, by omega⟩
  have HN := fun w => new_any w (k : Int) k (by omega)
  have HR := hid hr
  have HL := hid hl
  clear hr hl
  go_enter Try.func7, Try.ntmps7
  go_wp2_with fail
  refine (awake_any _).mono ?_
  rintro e w1 ⟨rfl, hb⟩
  have HB := hid hb
  clear hb
  go_wp2_with fail
  refine (HN _).mono ?_
  rintro e w2 ⟨q, rfl, hs, hb, hq⟩
  have HB2 := hid (HB.out.trans (hb.mono HB.out.size))
  have HQ := hid (Nat.le_trans HB.out.size hq)
  have HS := hid hs
  clear hs hb hq HN HB
  by_cases hlen : len ≤ 100
  · have hlen' : ¬ (100 : Int) < (len : Int) := by omega
    have hba : Below w2.heap.size w2 (w2.alloc (.cells (onCells z96).toArray 40)) := (Below.refl _ w2).alloc (Nat.le_refl _) _
    have HB3 := hid (HB2.out.trans (hba.mono HB2.out.size))
    have HS3 := hid (HS.out.below hba)
    have HO3 : Hid (OnAt (w2.alloc (.cells (onCells z96).toArray 40)) w2.heap.size z96) := ⟨heap_alloc_new w2 _, z96_len⟩
    have HNE : Hid (q ≠ w2.heap.size) := by have := HS.out.lt; show q ≠ _; omega
    have HG : Hid (w.heap.size ≤ w2.heap.size) := HB2.out.size
    clear hba
    go_wp2_with (refine step_alloc 40 rfl rfl _ _ (run_alloc40 _) ?_)
    generalize w2.alloc (.cells (onCells z96).toArray 40) = w3 at HB3 HS3 HO3 ⊢
    generalize w2.heap.size = g at HNE HG HO3 ⊢
    clear HS HB2
    go_loopg [8, 9] len (fun gk vf vi wr => ∃ i : Nat, ∃ t, i + gk = len ∧ vi = .int .i64 (i : Int) ∧ vf = .int .i64 (nfree t k : Int) ∧ SpAt wr q k t ∧ OnAt wr g t ∧ Below w.heap.size w wr)
    case atStart => exact ⟨0, z96, by omega, rfl, by rw [nfree_z96], HS3.out, HO3.out, HB3.out⟩
    case round =>
      obtain ⟨i, t, hi, rfl, rfl, hsi, hoi, hbi⟩ := hrel
      have HSi := hid hsi
      have HOi := hid hoi
      have HBi := hid hbi
      have hfl := nfree_le t k
      clear hsi hoi hbi HS3 HO3 HB3
      by_cases hlt : i < len
      · obtain ⟨bb, off, rfl, hbb, hcell⟩ := HR.out.at_ (by intro h; have := HL.out; rw [h] at this; simp at this; omega)
        obtain ⟨x, hx⟩ : ∃ x, l[i]? = some x := ⟨_, List.getElem?_eq_getElem (by rw [HL.out]; exact hlt)⟩
        have hcI := (HBi.out.cell (p := ⟨bb, off + i, none⟩) hbb).trans (hcell i x hx)
        obtain ⟨x, hx256⟩ := x
        dsimp only at hcI
        obtain ⟨c, hc, hcI2⟩ : ∃ c : Nat, (x : Int) % 40 = (c : Int) ∧ c < 40 := ⟨x % 40, by omega, by omega⟩
        clear hcell hx hbb
        by_cases hck : c < k
        · have HF : Hid (t.getD c false = false → nfree (t.set c true) k + 1 = nfree t k) := fun h => nfree_take t c (by rw [HSi.out.len]; omega) h k hck
          generalize hnf : nfree t k = f at *
          have HNF := hid hnf
          clear hnf
          go_wp2_with fail
          refine (claim_in HSi.out c hck).mono ?_
          rintro e w3 ⟨rfl, hs, ho3⟩
          have HB3 := hid (HBi.out.trans (ho3.low HQ.out HBi.out.size))
          have ho := HOi.out.other ho3 HNE.out.symm
          have hon := ho.c c hcI2
          have hfr := ho.fr c
          have HO3 := hid ho
          clear ho ho3 hcI HSi HBi HOi
          cases hb : t.getD c false
          · rw [hb] at hs hon HF
            rw [if_neg (by simp)] at hs
            have HS4 := hid (hs.other (only_setCell w3 g c none (.bool true)) HNE.out)
            have HO4 := hid (HO3.out.set c true)
            have HB4 := hid (HB3.out.trans ((only_setCell w3 g c none (.bool true)).low HG.out HB3.out.size))
            have hf1 := HF.out rfl
            have hf2 : ((nfree (t.set c true) k : Nat) : Int) = (f : Int) - 1 := by omega
            have HF2 := hid hf2
            clear hs HO3 HB3 HF hf1 hf2 hb
            go_wp2_with fail
            go_roundg (gk - 1)
            case measure => omega
            case rel => exact ⟨i + 1, _, by omega, by go_num, by rw [HF2.out], HS4.out, HO4.out, HB4.out⟩
          · rw [hb] at hs hon HF
            rw [if_pos rfl] at hs
            have HS4 := hid hs
            clear hs HF hb
            go_wp2_with fail
            go_roundg (gk - 1)
            case measure => omega
            case rel => exact ⟨i + 1, _, by omega, by go_num, by rw [HNF.out], HS4.out, HO3.out, HB3.out⟩
        · have hck' : ¬ (c : Int) < (k : Int) := by omega
          generalize hnf : nfree t k = f at *
          have HNF := hid hnf
          clear hnf
          go_wp2_with fail
          refine (claim_no HSi.out c (by omega)).mono ?_
          rintro e w3 ⟨rfl, rfl⟩
          go_wp2_with fail
          go_roundg (gk - 1)
          case measure => omega
          case rel => exact ⟨i + 1, _, by omega, by go_num, by rw [HNF.out], HSi.out, HOi.out, HBi.out⟩
      · have hlt' : ¬ (i : Int) < (len : Int) := by omega
        go_wp2_with fail
        go_loopg [8, 11] k (fun gk vf vi wr => ∃ i : Nat, ∃ u, i + gk = k ∧ vi = .int .i64 (i : Int) ∧ vf = .int .i64 (nfree u k : Int) ∧ (∀ j, j < i → u.getD j false = true) ∧ (∀ j, i ≤ j → u.getD j false = t.getD j false) ∧ SpAt wr q k u ∧ OnAt wr g t ∧ Below w.heap.size w wr)
        case atStart => exact ⟨0, t, by omega, rfl, rfl, fun j hj => by omega, fun j _ => rfl, HSi.out, HOi.out, HBi.out⟩
        case round =>
          obtain ⟨m, u, hm, rfl, rfl, hu1, hu2, hsm, hom, hbm⟩ := hrel
          have HSm := hid hsm
          have HOm := hid hom
          have HBm := hid hbm
          have HU1 := hid hu1
          have HU2 := hid hu2
          have hfl2 := nfree_le u k
          clear hsm hom hbm HSi HOi HBi hu1 hu2
          by_cases hmk : m < k
          · have hon := HOm.out.c m (by omega)
            rw [← HU2.out m (Nat.le_refl _)] at hon
            cases hb : u.getD m false
            · rw [hb] at hon
              have hl96 := HSm.out.len
              have hf1 := nfree_take u m (by omega) hb k hmk
              have HF2 : Hid (((nfree (u.set m true) k : Nat) : Int) = (nfree u k : Int) - 1) := by show _ = _; omega
              have HBb := hid hb
              clear hb hf1 hl96
              generalize nfree u k = f at *
              go_wp2_with fail
              refine (take_any HSm.out).mono ?_
              rintro e w4 ⟨hd, ho4⟩
              obtain ⟨rfl, hs4⟩ : e = .returned (.tuple #[.int .i64 (m : Int), .bool true]) ∧ SpAt w4 q k (u.set m true) := by
                rcases hd with ⟨j, rfl, hl, hs⟩ | ⟨_, hf, _⟩
                · obtain rfl : j = m := by
                    rcases Nat.lt_trichotomy j m with h | h | h
                    · have h1 := HU1.out j h
                      rw [hl.2.1] at h1
                      cases h1
                    · exact h
                    · have h1 := hl.2.2 m h
                      rw [HBb.out] at h1
                      cases h1
                  exact ⟨rfl, hs⟩
                · have h1 := hf m hmk
                  rw [HBb.out] at h1
                  cases h1
              have HS4 := hid hs4
              have HO4 := hid (HOm.out.other ho4 HNE.out.symm)
              have HB4 := hid (HBm.out.trans (ho4.low HQ.out HBm.out.size))
              clear hd ho4 hs4 HBm HOm
              go_wp2_with fail
              refine (free_any HS4.out).mono ?_
              rintro e w5 ⟨rfl, n5, rfl⟩
              rw [HF2.out]
              have HS5 := hid (HS4.out.drewN n5)
              have HO5 := hid (HO4.out.drewN n5)
              have HB5 := hid (Below.drewN' HB4.out n5)
              generalize w4.drewN n5 = w5 at HS5 HO5 HB5 ⊢
              clear HS4 HO4 HB4
              go_wp2_with fail
              go_roundg (gk - 1)
              case measure => omega
              case rel =>
                have hl96 := HSm.out.len
                refine ⟨m + 1, _, by omega, by go_num, by rw [HF2.out], fun j hj => ?_, fun j hj => ?_, HS5.out, HO5.out, HB5.out⟩
                · rw [getD_set u m j true (by omega)]
                  by_cases e : m = j
                  · rw [if_pos e]
                  · rw [if_neg e]; exact HU1.out j (by omega)
                · rw [getD_set u m j true (by omega), if_neg (by omega)]; exact HU2.out j (by omega)
            · rw [hb] at hon
              have HBb := hid hb
              clear hb
              generalize hfI : (nfree u k : Int) = f at *
              have HFI := hid hfI
              clear hfI
              go_wp2_with fail
              go_roundg (gk - 1)
              case measure => omega
              case rel =>
                refine ⟨m + 1, u, by omega, by go_num, by rw [HFI.out], fun j hj => ?_, fun j hj => HU2.out j (by omega), HSm.out, HOm.out, HBm.out⟩
                rcases Nat.lt_succ_iff_lt_or_eq.1 hj with h | rfl
                · exact HU1.out j h
                · exact HBb.out
          · obtain rfl : m = k := by omega
            go_wp2_with fail
            refine (take_any HSm.out).mono ?_
            rintro e w4 ⟨hd, ho4⟩
            obtain ⟨rfl, hs4⟩ : e = .returned (.tuple #[.int .i64 0, .bool false]) ∧ SpAt w4 q m u := by
              rcases hd with ⟨j, rfl, hl, hs⟩ | ⟨rfl, hf, hs⟩
              · exact (full_not_least HU1.out hl).elim
              · exact ⟨rfl, hs⟩
            have HS4 := hid hs4
            have HB4 := hid (HBm.out.trans (ho4.low HQ.out HBm.out.size))
            clear hd ho4 hs4 HBm HOm
            go_wp2_with fail
            refine (free_any HS4.out).mono ?_
            rintro e w5 ⟨rfl, n5, rfl⟩
            rw [nfree_full _ _ HU1.out]
            have HB5 := hid (Below.drewN' HB4.out n5)
            generalize w4.drewN n5 = w5 at HB5 ⊢
            go_wp2_with fail
            go_ret
            exact ⟨rfl, HB5.out⟩
  · have hlen' : (100 : Int) < (len : Int) := by omega
    go_wp2_with fail
    go_ret
    exact ⟨rfl, HB2.out⟩
set_option linter.unusedVariables false
set_option maxRecDepth 100000 in
theorem spaceClaims_lifted (os : Os) (started : os.Started) (H : Type) (enc : TypeId × Value → H) :
    ReturnsInHanded {} Try.checked os 7 .any (Rows.spaceClaimsSpec.pre6 enc Try.prog Try.f7 Rows.spaceClaimsRow.domain false) (Rows.spaceClaimsSpec.post enc Try.prog Try.f7 false true false false) := by
  refine returnsInHanded_of_change (C := Try.checked) own started (by kernel_rfl) Try.func7
    (ChangeSpec.witness6 (enc := enc) (C := Try.checked) false ⟨#[], #[.int .u8 0, .slice none 0 0], []⟩ 8 (by kernel_rfl) (by kernel_rfl) (by kernel_rfl) (by kernel_rfl)) ?_
  intro W base args ds gs before hval0 hW hcnd _
  have hval : ∀ (j : Nat) t v, Try.f7.params[j]? = some t → args[j]? = some v → Value.okWide Try.prog W .any base t v := hval0
  have hW' := hW
  obtain ⟨p, q, hA0, hV, rfl, hfz, hnd⟩ := hW
  have hA : DataW.TrodAll enc Try.prog W 0 (fun _ => true) true Try.f7.params.toList args.toList ds p := hA0
  rw [Try.params7] at hA hval
  obtain ⟨v0, vs0, d0, ds0, p0, q0, hargs, rfl, rfl, h0, r0⟩ := trodAll_cons hA
  obtain ⟨v1, vs1, d1, ds1, p1, q1, rfl, rfl, rfl, h1, r1⟩ := trodAll_cons r0
  obtain ⟨rfl, rfl, rfl⟩ := trodAll_nil r1
  obtain rfl : args = #[v0, v1] := by cases args; simp_all
  obtain ⟨rfl, rfl⟩ := trodVars_none hV
  obtain ⟨a0, rfl, rfl, rfl, w0⟩ := open_int Try.underlying5 (hval 0 5 v0 rfl rfl) h0
  obtain ⟨a1, len1, cap1, rfl⟩ := okWide_slice Try.underlying39 (hval 1 39 v1 rfl rfl)
  have k1 := h1
  have lt1 : ∀ x ∈ p1, x.block < W.heap.size := by obtain ⟨m, hm⟩ := k1; exact DataW.trod_lt m _ _ _ hm
  obtain ⟨l1, hl1, hr1⟩ : ∃ l, l.length = len1 ∧ ByteRow W a1 l := by
    obtain ⟨fuel, hf⟩ := h1
    exact bytes_of hf
  clear hA0 hval0
  refine (spaceClaims_walk W a0 w0 a1 len1 cap1 l1 hr1 hl1).mono fun e W' ⟨he, bel⟩ => ?_
  subst he
  exact ⟨_, rfl, _, _, _, [], _, [], hW', trodAll_mk1 (shut_bool Try.underlying4 _), (trodAll_cons_mk (shut_int Try.underlying5 w0) (trodAll_cons_mk (Below.trod laidOut (by kernel_rfl) (of_decide_eq_true (by kernel_rfl)) k1 bel lt1) trodAll_mk0)), rfl, bel.frame _, fun h => by cases h⟩

theorem spaceClaims_over : Rows.spaceClaimsRow.holds Try.pinned (OpenSpec.ofChange Rows.spaceClaimsSpec) :=
  OpenClaim.holds_of_wide 7 Try.f7 rfl rfl rfl rfl rfl rfl rfl ⟨rfl, rfl, rfl, rfl, rfl⟩ rfl rfl rfl rfl rfl (by kernel_rfl) Try.func7 (by kernel_rfl)
    (of_decide_eq_true (by kernel_rfl)) (by unfold Func.isWrapper; first | (rw [if_pos (by decide +kernel)]; kernel_rfl) | (rw [if_neg (by decide +kernel)]; exact ⟨rfl, rfl⟩))
    (fun os started H enc _ => spaceClaims_lifted os started H enc)
theorem spaceClaims_holds : Rows.SpaceClaimsSaid := spaceClaims_over
#print axioms spaceClaims_holds
end Go.Proofs.Ytgnjhakakgkbaaa
