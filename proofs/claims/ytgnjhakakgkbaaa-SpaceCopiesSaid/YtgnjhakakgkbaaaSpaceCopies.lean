/- SpaceCopies: a copy and what it was made of go each their own way. No condition. -/
import Derived.Test.YtgnjhakakgkbaaaUp
namespace Go.Proofs.Ytgnjhakakgkbaaa
open Go.ChangeShapes Go.WideShapes Go.ChangeAt Go.RowKit
theorem nfree_upTo (a : Nat) : ∀ k, k ≤ 96 → nfree (upTo a) k = k - a
  | 0, _ => by simp [nfree]
  | k + 1, h => by
    simp only [nfree, nfree_upTo a k (by omega), upTo_get a k (by omega)]
    by_cases hk : k < a <;> simp [hk] <;> omega
theorem take_up {w : World} {q k a : Nat} (h : SpAt w q k (upTo a)) (ha : a ≤ k) : Calls Try.prog 11 #[.pointer (some ⟨q, 0, none⟩)] w fun e w' =>
    ((a < k ∧ e = .returned (.tuple #[.int .i64 (a : Int), .bool true]) ∧ SpAt w' q k (upTo (a + 1))) ∨ (a = k ∧ e = .returned (.tuple #[.int .i64 0, .bool false]) ∧ SpAt w' q k (upTo a))) ∧ Only q none w w' := by
  have hk := h.le
  refine (take_any h).mono ?_
  rintro e w' ⟨hd, ho⟩
  refine ⟨?_, ho⟩
  rcases hd with ⟨i, rfl, hl, hs⟩ | ⟨rfl, hf, hs⟩
  · by_cases hak : a < k
    · obtain rfl := upTo_least hk hak hl
      rw [upTo_set] at hs
      exact .inl ⟨hak, rfl, hs⟩
    · obtain rfl : a = k := by omega
      exact (full_not_least (upTo_full a hk) hl).elim
  · by_cases hak : a < k
    · exact (upTo_not_full hk hak hf).elim
    · exact .inr ⟨by omega, rfl, hs⟩
set_option maxHeartbeats 4000000 in
theorem spaceCopies_walk (w : World) (a0 : Int) (w0 : (Lit.int .u8 a0).wf = true) (a1 : Option Addr) (len cap : Nat) (l : List Bool) (hr : BoolRow w a1 l) (hl : l.length = len) :
    Calls Try.prog 6 #[.int .u8 a0, .slice a1 len cap] w fun e w' => e = .returned (.bool true) ∧ Below w.heap.size w w' := by
  have hb0 := bounds_u8 w0
  obtain ⟨n, rfl⟩ : ∃ n : Nat, a0 = (n : Int) := ⟨a0.toNat, by omega⟩
  have hn : n < 256 := by omega
  clear w0 hb0
  obtain ⟨k, hK, hk⟩ : ∃ k : Nat, (n : Int) % 20 = (k : Int) ∧ k < 20 := ⟨n % 20, by omega, by omega⟩
  have HN := fun w => new_any w (k : Int) k (by omega)
  have HR := hid hr
  have HL := hid hl
  clear hr hl
  go_enter Try.func6, Try.ntmps6
  go_wp2_with fail
  refine (awake_any _).mono ?_
  rintro e w1 ⟨rfl, hb⟩
  have HB := hid hb
  clear hb
  go_wp2_with fail
  refine (HN _).mono ?_
  rintro e w2 ⟨q, rfl, hs, hb, hq⟩
  have HB2 := hid (HB.out.trans (hb.mono HB.out.size))
  have HQ := hid (Nat.le_trans HB.out.size hq)
  have HS := hid hs
  clear hs hb hq HN HB
  by_cases hlen : len ≤ 100
  · have hlen' : ¬ (100 : Int) < (len : Int) := by omega
    go_wp2_with fail
    refine (copy_any HS.out).mono ?_
    rintro e w3 ⟨c, rfl, hc, hb, hq⟩
    have HB3 := hid (HB2.out.trans (hb.mono HB2.out.size))
    have HQC := hid (Nat.le_trans HB2.out.size hq)
    have HNE : Hid (q ≠ c) := by have := HS.out.lt; show q ≠ c; omega
    have HS3 := hid (HS.out.below hb)
    have HC3 := hid hc
    clear hc hb hq HS HB2
    go_wp2_with fail
    go_loopg [8, 9, 10] len (fun gk va vb vi wr => ∃ i a b : Nat, i + gk = len ∧ vi = .int .i64 (i : Int) ∧ va = .int .i64 (a : Int) ∧ vb = .int .i64 (b : Int) ∧ a ≤ k ∧ b ≤ k ∧ SpAt wr q k (upTo a) ∧ SpAt wr c k (upTo b) ∧ Below w.heap.size w wr)
    case atStart => exact ⟨0, 0, 0, by omega, rfl, rfl, rfl, by omega, by omega, by rw [upTo_zero]; exact HS3.out, by rw [upTo_zero]; exact HC3.out, HB3.out⟩
    case round =>
      obtain ⟨i, a, b, hi, rfl, rfl, rfl, ha, hb, hsi, hci, hbi⟩ := hrel
      have HSi := hid hsi
      have HCi := hid hci
      have HBi := hid hbi
      clear hsi hci hbi HS3 HC3 HB3
      have hk96 : k ≤ 96 := by omega
      by_cases hlt : i < len
      · obtain ⟨bb, off, rfl, hbb, hcell⟩ := HR.out.at_ (by intro h; have := HL.out; rw [h] at this; simp at this; omega)
        obtain ⟨x, hx⟩ : ∃ x, l[i]? = some x := ⟨_, List.getElem?_eq_getElem (by rw [HL.out]; exact hlt)⟩
        have hcI := (HBi.out.cell (p := ⟨bb, off + i, none⟩) hbb).trans (hcell i x hx)
        have HCW := hid (hcell i x hx)
        have HBBlt := hid hbb
        clear hcell hx hbb
        cases x
        · go_wp2_with fail
          refine (take_up HSi.out ha).mono ?_
          rintro e w3 ⟨hd, ho3⟩
          have HBB := hid (HBi.out.trans (ho3.low HQ.out HBi.out.size))
          have HSC := hid (HCi.out.other ho3 HNE.out.symm)
          have hcJ := (HBB.out.cell (p := ⟨bb, off + i, none⟩) HBBlt.out).trans HCW.out
          rcases hd with ⟨hak, rfl, hs⟩ | ⟨rfl, rfl, hs⟩
          · have HSS := hid hs
            clear hs ho3 hcI HSi HCi HBi
            go_wp2_with fail
            refine (free_any HSS.out).mono ?_
            rintro e w5 ⟨rfl, n5, rfl⟩
            rw [nfree_upTo (a + 1) k hk96]
            have HS5 := hid (HSS.out.drewN n5)
            have HC5 := hid (HSC.out.drewN n5)
            have HB5 := hid (Below.drewN' HBB.out n5)
            generalize w3.drewN n5 = w5 at HS5 HC5 HB5 ⊢
            clear HSS HSC HBB
            have hA1 : ((k - (a + 1) : Nat) : Int) = (k : Int) - (((a + 1) : Nat) : Int) := by omega
            rw [hA1]
            clear hA1
            go_wp2_with fail
            refine (free_any HC5.out).mono ?_
            rintro e w6 ⟨rfl, n6, rfl⟩
            rw [nfree_upTo b k hk96]
            have HS6 := hid (HS5.out.drewN n6)
            have HC6 := hid (HC5.out.drewN n6)
            have HB6 := hid (Below.drewN' HB5.out n6)
            generalize w5.drewN n6 = w6 at HS6 HC6 HB6 ⊢
            clear HS5 HC5 HB5
            have hB1 : ((k - b : Nat) : Int) = (k : Int) - ((b : Nat) : Int) := by omega
            rw [hB1]
            clear hB1
            go_wp2_with fail
            go_roundg (gk - 1)
            case measure => omega
            case rel => exact ⟨i + 1, (a + 1), b, by omega, by go_num, by go_num, by go_num, by omega, by omega, HS6.out, HC6.out, HB6.out⟩
          · have HSS := hid hs
            clear hs ho3 hcI HSi HCi HBi
            go_wp2_with fail
            refine (free_any HSS.out).mono ?_
            rintro e w5 ⟨rfl, n5, rfl⟩
            rw [nfree_upTo a a hk96]
            have HS5 := hid (HSS.out.drewN n5)
            have HC5 := hid (HSC.out.drewN n5)
            have HB5 := hid (Below.drewN' HBB.out n5)
            generalize w3.drewN n5 = w5 at HS5 HC5 HB5 ⊢
            clear HSS HSC HBB
            have hA1 : ((a - a : Nat) : Int) = (a : Int) - ((a : Nat) : Int) := by omega
            rw [hA1]
            clear hA1
            go_wp2_with fail
            refine (free_any HC5.out).mono ?_
            rintro e w6 ⟨rfl, n6, rfl⟩
            rw [nfree_upTo b a hk96]
            have HS6 := hid (HS5.out.drewN n6)
            have HC6 := hid (HC5.out.drewN n6)
            have HB6 := hid (Below.drewN' HB5.out n6)
            generalize w5.drewN n6 = w6 at HS6 HC6 HB6 ⊢
            clear HS5 HC5 HB5
            have hB1 : ((a - b : Nat) : Int) = (a : Int) - ((b : Nat) : Int) := by omega
            rw [hB1]
            clear hB1
            go_wp2_with fail
            go_roundg (gk - 1)
            case measure => omega
            case rel => exact ⟨i + 1, a, b, by omega, by go_num, by go_num, by go_num, by omega, by omega, HS6.out, HC6.out, HB6.out⟩
        · go_wp2_with fail
          refine (take_up HCi.out hb).mono ?_
          rintro e w3 ⟨hd, ho3⟩
          have HBB := hid (HBi.out.trans (ho3.low HQC.out HBi.out.size))
          have HSS := hid (HSi.out.other ho3 HNE.out)
          have hcJ := (HBB.out.cell (p := ⟨bb, off + i, none⟩) HBBlt.out).trans HCW.out
          rcases hd with ⟨hbk, rfl, hs⟩ | ⟨rfl, rfl, hs⟩
          · have HSC := hid hs
            clear hs ho3 hcI HSi HCi HBi
            go_wp2_with fail
            refine (free_any HSS.out).mono ?_
            rintro e w5 ⟨rfl, n5, rfl⟩
            rw [nfree_upTo a k hk96]
            have HS5 := hid (HSS.out.drewN n5)
            have HC5 := hid (HSC.out.drewN n5)
            have HB5 := hid (Below.drewN' HBB.out n5)
            generalize w3.drewN n5 = w5 at HS5 HC5 HB5 ⊢
            clear HSS HSC HBB
            have hA1 : ((k - a : Nat) : Int) = (k : Int) - ((a : Nat) : Int) := by omega
            rw [hA1]
            clear hA1
            go_wp2_with fail
            refine (free_any HC5.out).mono ?_
            rintro e w6 ⟨rfl, n6, rfl⟩
            rw [nfree_upTo (b + 1) k hk96]
            have HS6 := hid (HS5.out.drewN n6)
            have HC6 := hid (HC5.out.drewN n6)
            have HB6 := hid (Below.drewN' HB5.out n6)
            generalize w5.drewN n6 = w6 at HS6 HC6 HB6 ⊢
            clear HS5 HC5 HB5
            have hB1 : ((k - (b + 1) : Nat) : Int) = (k : Int) - (((b + 1) : Nat) : Int) := by omega
            rw [hB1]
            clear hB1
            go_wp2_with fail
            go_roundg (gk - 1)
            case measure => omega
            case rel => exact ⟨i + 1, a, (b + 1), by omega, by go_num, by go_num, by go_num, by omega, by omega, HS6.out, HC6.out, HB6.out⟩
          · have HSC := hid hs
            clear hs ho3 hcI HSi HCi HBi
            go_wp2_with fail
            refine (free_any HSS.out).mono ?_
            rintro e w5 ⟨rfl, n5, rfl⟩
            rw [nfree_upTo a b hk96]
            have HS5 := hid (HSS.out.drewN n5)
            have HC5 := hid (HSC.out.drewN n5)
            have HB5 := hid (Below.drewN' HBB.out n5)
            generalize w3.drewN n5 = w5 at HS5 HC5 HB5 ⊢
            clear HSS HSC HBB
            have hA1 : ((b - a : Nat) : Int) = (b : Int) - ((a : Nat) : Int) := by omega
            rw [hA1]
            clear hA1
            go_wp2_with fail
            refine (free_any HC5.out).mono ?_
            rintro e w6 ⟨rfl, n6, rfl⟩
            rw [nfree_upTo b b hk96]
            have HS6 := hid (HS5.out.drewN n6)
            have HC6 := hid (HC5.out.drewN n6)
            have HB6 := hid (Below.drewN' HB5.out n6)
            generalize w5.drewN n6 = w6 at HS6 HC6 HB6 ⊢
            clear HS5 HC5 HB5
            have hB1 : ((b - b : Nat) : Int) = (b : Int) - ((b : Nat) : Int) := by omega
            rw [hB1]
            clear hB1
            go_wp2_with fail
            go_roundg (gk - 1)
            case measure => omega
            case rel => exact ⟨i + 1, a, b, by omega, by go_num, by go_num, by go_num, by omega, by omega, HS6.out, HC6.out, HB6.out⟩
      · have hlt' : ¬ (i : Int) < (len : Int) := by omega
        go_wp2_with fail
        go_ret
        exact ⟨rfl, HBi.out⟩
  · have hlen' : (100 : Int) < (len : Int) := by omega
    go_wp2_with fail
    go_ret
    exact ⟨rfl, HB2.out⟩
set_option linter.unusedVariables false
set_option maxRecDepth 100000 in
theorem spaceCopies_lifted (os : Os) (started : os.Started) (H : Type) (enc : TypeId × Value → H) :
    ReturnsInHanded {} Try.checked os 6 .any (Rows.spaceCopiesSpec.pre6 enc Try.prog Try.f6 Rows.spaceCopiesRow.domain false) (Rows.spaceCopiesSpec.post enc Try.prog Try.f6 false true false false) := by
  refine returnsInHanded_of_change (C := Try.checked) own started (by kernel_rfl) Try.func6
    (ChangeSpec.witness6 (enc := enc) (C := Try.checked) false ⟨#[], #[.int .u8 0, .slice none 0 0], []⟩ 8 (by kernel_rfl) (by kernel_rfl) (by kernel_rfl) (by kernel_rfl)) ?_
  intro W base args ds gs before hval0 hW hcnd _
  have hval : ∀ (j : Nat) t v, Try.f6.params[j]? = some t → args[j]? = some v → Value.okWide Try.prog W .any base t v := hval0
  have hW' := hW
  obtain ⟨p, q, hA0, hV, rfl, hfz, hnd⟩ := hW
  have hA : DataW.TrodAll enc Try.prog W 0 (fun _ => true) true Try.f6.params.toList args.toList ds p := hA0
  rw [Try.params6] at hA hval
  obtain ⟨v0, vs0, d0, ds0, p0, q0, hargs, rfl, rfl, h0, r0⟩ := trodAll_cons hA
  obtain ⟨v1, vs1, d1, ds1, p1, q1, rfl, rfl, rfl, h1, r1⟩ := trodAll_cons r0
  obtain ⟨rfl, rfl, rfl⟩ := trodAll_nil r1
  obtain rfl : args = #[v0, v1] := by cases args; simp_all
  obtain ⟨rfl, rfl⟩ := trodVars_none hV
  obtain ⟨a0, rfl, rfl, rfl, w0⟩ := open_int Try.underlying5 (hval 0 5 v0 rfl rfl) h0
  obtain ⟨a1, len1, cap1, rfl⟩ := okWide_slice Try.underlying26 (hval 1 26 v1 rfl rfl)
  have k1 := h1
  have lt1 : ∀ x ∈ p1, x.block < W.heap.size := by obtain ⟨m, hm⟩ := k1; exact DataW.trod_lt m _ _ _ hm
  obtain ⟨l1, hl1, hr1⟩ : ∃ l, l.length = len1 ∧ BoolRow W a1 l := by
    obtain ⟨fuel, hf⟩ := h1
    exact bools_of hf
  clear hA0 hval0
  refine (spaceCopies_walk W a0 w0 a1 len1 cap1 l1 hr1 hl1).mono fun e W' ⟨he, bel⟩ => ?_
  subst he
  exact ⟨_, rfl, _, _, _, [], _, [], hW', trodAll_mk1 (shut_bool Try.underlying4 _), (trodAll_cons_mk (shut_int Try.underlying5 w0) (trodAll_cons_mk (Below.trod laidOut (by kernel_rfl) (of_decide_eq_true (by kernel_rfl)) k1 bel lt1) trodAll_mk0)), rfl, bel.frame _, fun h => by cases h⟩

theorem spaceCopies_over : Rows.spaceCopiesRow.holds Try.pinned (OpenSpec.ofChange Rows.spaceCopiesSpec) :=
  OpenClaim.holds_of_wide 6 Try.f6 rfl rfl rfl rfl rfl rfl rfl ⟨rfl, rfl, rfl, rfl, rfl⟩ rfl rfl rfl rfl rfl (by kernel_rfl) Try.func6 (by kernel_rfl)
    (of_decide_eq_true (by kernel_rfl)) (by unfold Func.isWrapper; first | (rw [if_pos (by decide +kernel)]; kernel_rfl) | (rw [if_neg (by decide +kernel)]; exact ⟨rfl, rfl⟩))
    (fun os started H enc _ => spaceCopies_lifted os started H enc)
theorem spaceCopies_holds : Rows.SpaceCopiesSaid := spaceCopies_over
#print axioms spaceCopies_holds
end Go.Proofs.Ytgnjhakakgkbaaa
