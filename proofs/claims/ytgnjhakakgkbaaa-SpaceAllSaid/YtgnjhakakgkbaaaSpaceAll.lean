/- SpaceAll: all that there are can be taken, each once; given back in any order they are taken from the least on again. No condition. -/
import Derived.Test.YtgnjhakakgkbaaaUp
namespace Go.Proofs.Ytgnjhakakgkbaaa
open Go.ChangeShapes Go.WideShapes Go.ChangeAt Go.RowKit
/-- Behind i gives, in turn from o on. -/
def Gave (t : List Bool) (k o i : Nat) : Prop := t.length = 96 ∧ ∀ j, j < k → (t.getD j false = true ↔ ∀ m, m < i → (m + o) % k ≠ j)
theorem gave_zero {t : List Bool} {k o : Nat} (hl : t.length = 96) (h : Full t k) : Gave t k o 0 := ⟨hl, fun j hj => ⟨fun _ m hm => by omega, fun _ => h j hj⟩⟩
theorem mod_apart {a b o k : Nat} (hab : a < b) (hb : b < k) : (a + o) % k ≠ (b + o) % k := by
  intro h
  have h1 := Nat.sub_mod_eq_zero_of_mod_eq h.symm
  rw [show b + o - (a + o) = b - a by omega, Nat.mod_eq_of_lt (by omega)] at h1
  omega
theorem gave_is {t : List Bool} {k o i : Nat} (h : Gave t k o i) (hi : i < k) : t.getD ((i + o) % k) false = true :=
  (h.2 _ (Nat.mod_lt _ (by omega))).2 fun _ hm => mod_apart hm hi
theorem gave_succ {t : List Bool} {k o i : Nat} (h : Gave t k o i) (hi : i < k) (hk : k ≤ 96) : Gave (t.set ((i + o) % k) false) k o (i + 1) := by
  have hc : (i + o) % k < k := Nat.mod_lt _ (by omega)
  have hl := h.1
  refine ⟨by rw [List.length_set, hl], fun j hj => ?_⟩
  rw [getD_set t _ j false (by omega)]
  by_cases e : (i + o) % k = j
  · rw [if_pos e]
    exact ⟨fun h => (by cases h), fun h => absurd e (h i (by omega))⟩
  · rw [if_neg e, h.2 j hj]
    exact ⟨fun h m hm => by rcases Nat.lt_succ_iff_lt_or_eq.1 hm with h1 | rfl; exact h m h1; exact e, fun h m hm => h m (by omega)⟩
theorem gave_all {t : List Bool} {k o : Nat} (h : Gave t k o k) : ∀ j, j < k → t.getD j false = false := fun j hj => by
  cases hb : t.getD j false with
  | false => rfl
  | true =>
    have h1 := (h.2 j hj).1 hb ((j + (k - o % k)) % k) (Nat.mod_lt _ (by omega))
    exfalso
    apply h1
    have ho : o % k < k := Nat.mod_lt _ (by omega)
    rw [Nat.mod_add_mod, show j + (k - o % k) + o = j + k + (o - o % k) by have := Nat.mod_le o k; omega]
    have hd : k ∣ o - o % k := Nat.dvd_sub_mod o
    obtain ⟨c, hc⟩ := hd
    rw [hc, Nat.add_mul_mod_self_left, Nat.add_mod_right, Nat.mod_eq_of_lt hj]
theorem nfree_none (t : List Bool) : ∀ k, (∀ j, j < k → t.getD j false = false) → nfree t k = k
  | 0, _ => rfl
  | k + 1, h => by simp only [nfree, nfree_none t k (fun j hj => h j (by omega)), h k (by omega)]; simp
set_option maxHeartbeats 4000000 in
theorem spaceAll_walk (w : World) (a0 : Int) (w0 : (Lit.int .u8 a0).wf = true) (a1 : Int) (w1 : (Lit.int .u8 a1).wf = true) :
    Calls Try.prog 5 #[.int .u8 a0, .int .u8 a1] w fun e w' => e = .returned (.bool true) ∧ Below w.heap.size w w' := by
  have hb0 := bounds_u8 w0
  have hb1 := bounds_u8 w1
  obtain ⟨n, rfl⟩ : ∃ n : Nat, a0 = (n : Int) := ⟨a0.toNat, by omega⟩
  obtain ⟨o, rfl⟩ : ∃ o : Nat, a1 = (o : Int) := ⟨a1.toNat, by omega⟩
  have hn : n < 256 := by omega
  have ho : o < 256 := by omega
  clear w0 w1 hb0 hb1
  obtain ⟨k, hK, hk⟩ : ∃ k : Nat, (n : Int) % 97 = (k : Int) ∧ k ≤ 96 := ⟨n % 97, by omega, by omega⟩
  have HN := fun w => new_any w (k : Int) k (by omega)
  go_enter Try.func5, Try.ntmps5
  go_wp2_with fail
  refine (awake_any _).mono ?_
  rintro e w1 ⟨rfl, hb⟩
  have HB := hid hb
  clear hb
  go_wp2_with fail
  refine (HN _).mono ?_
  rintro e w2 ⟨q, rfl, hs, hb, hq⟩
  have HB2 := hid (HB.out.trans (hb.mono HB.out.size))
  have HQ := hid (Nat.le_trans HB.out.size hq)
  have HS := hid hs
  clear hs hb hq HN
  go_wp2_with fail
  go_loopg [7] k (fun gk v wr => ∃ m : Nat, m + gk = k ∧ v = .int .i64 (m : Int) ∧ SpAt wr q k (upTo m) ∧ Below w.heap.size w wr)
  case atStart => exact ⟨0, by omega, rfl, by rw [upTo_zero]; exact HS.out, HB2.out⟩
  case round =>
    obtain ⟨m, hm, rfl, hs, hb⟩ := hrel
    have HSm := hid hs
    have HBm := hid hb
    clear hs hb HS HB2 HB
    by_cases hlt : m < k
    · go_wp2_with fail
      refine (take_any HSm.out).mono ?_
      rintro e w3 ⟨hd, ho3⟩
      obtain ⟨rfl, hs3⟩ : e = .returned (.tuple #[.int .i64 (m : Int), .bool true]) ∧ SpAt w3 q k (upTo (m + 1)) := by
        rcases hd with ⟨i, rfl, hl, hs⟩ | ⟨_, hf, _⟩
        · obtain rfl := upTo_least hk hlt hl
          rw [upTo_set] at hs
          exact ⟨rfl, hs⟩
        · exact (upTo_not_full hk hlt hf).elim
      have HS3 := hid hs3
      have HB3 := hid (HBm.out.trans (ho3.low HQ.out HBm.out.size))
      clear hd ho3 hs3
      go_wp2_with fail
      go_roundg (gk - 1)
      case measure => omega
      case rel => exact ⟨m + 1, by omega, by go_num, HS3.out, HB3.out⟩
    · obtain rfl : m = k := by omega
      go_wp2_with fail
      refine (take_any HSm.out).mono ?_
      rintro e w3 ⟨hd, ho3⟩
      obtain ⟨rfl, hs3⟩ : e = .returned (.tuple #[.int .i64 0, .bool false]) ∧ SpAt w3 q m (upTo m) := by
        rcases hd with ⟨i, rfl, hl, hs⟩ | ⟨rfl, hf, hs⟩
        · exact (full_not_least (upTo_full m hk) hl).elim
        · exact ⟨rfl, hs⟩
      have HS3 := hid hs3
      have HB3 := hid (HBm.out.trans (ho3.low HQ.out HBm.out.size))
      clear hd ho3 hs3 HSm HBm
      go_wp2_with fail
      refine (free_any HS3.out).mono ?_
      rintro e w4 ⟨rfl, n4, rfl⟩
      rw [nfree_full _ _ (upTo_full m hk)]
      have HS4 := hid (HS3.out.drewN n4)
      have HB4 := hid (Below.drewN' HB3.out n4)
      generalize w3.drewN n4 = w4 at HS4 HB4 ⊢
      clear HS3 HB3
      go_wp2_with fail
      go_loopg [12] m (fun gk v wr => ∃ i : Nat, ∃ t, i + gk = m ∧ v = .int .i64 (i : Int) ∧ Gave t m o i ∧ SpAt wr q m t ∧ Below w.heap.size w wr)
      case atStart => exact ⟨0, _, by omega, rfl, gave_zero (upTo_len m) (upTo_full m hk), HS4.out, HB4.out⟩
      case round =>
        obtain ⟨i, t, hi, rfl, hg, hs, hb⟩ := hrel
        have HG := hid hg
        have HSi := hid hs
        have HBi := hid hb
        clear hs hb hg HS4 HB4
        by_cases hlt2 : i < m
        · obtain ⟨c, hc, hcI⟩ : ∃ c : Nat, c = (i + o) % m ∧ ((i : Int) + (o : Int)) % (m : Int) = (c : Int) := ⟨(i + o) % m, rfl, by simp⟩
          have hcm : c < m := by rw [hc]; exact Nat.mod_lt _ (by omega)
          have hm0 : ¬ (m : Int) = 0 := by omega
          have HC := hid hc
          clear hc
          go_wp2_with fail
          refine (give_in HSi.out c hcm).mono ?_
          rintro e w5 ⟨rfl, hs5, ho5⟩
          have hgt := gave_is HG.out hlt2
          rw [← HC.out] at hgt
          rw [hgt] at hs5 ⊢
          rw [if_pos rfl] at hs5
          have HG5 := hid (gave_succ HG.out hlt2 hk)
          rw [← HC.out] at HG5
          have HS5 := hid hs5
          have HB5 := hid (HBi.out.trans (ho5.low HQ.out HBi.out.size))
          clear hs5 ho5 hgt
          go_wp2_with fail
          go_roundg (gk - 1)
          case measure => omega
          case rel => exact ⟨i + 1, _, by omega, by go_num, HG5.out, HS5.out, HB5.out⟩
        · obtain rfl : i = m := by omega
          have HF : Hid (∀ j, j < i → t.getD j false = false) := gave_all HG.out
          by_cases h0 : i = 0
          · subst h0
            go_wp2_with fail
            refine (take_any HSi.out).mono ?_
            rintro e w5 ⟨hd, ho5⟩
            obtain ⟨rfl, hs5⟩ : e = .returned (.tuple #[.int .i64 0, .bool false]) ∧ SpAt w5 q 0 t := by
              rcases hd with ⟨i, rfl, hl, hs⟩ | ⟨rfl, hf, hs⟩
              · exact absurd hl.1 (by omega)
              · exact ⟨rfl, hs⟩
            have HS5 := hid hs5
            have HB5 := hid (HBi.out.trans (ho5.low HQ.out HBi.out.size))
            clear hd ho5 hs5 HSi HBi
            go_wp2_with fail
            refine (give_no HS5.out 0 (by omega)).mono ?_
            rintro e w6 ⟨rfl, rfl⟩
            go_wp2_with fail
            refine (claim_no HS5.out (-1) (by omega)).mono ?_
            rintro e w7 ⟨rfl, rfl⟩
            go_wp2_with fail
            go_ret
            exact ⟨rfl, HB5.out⟩
          · go_wp2_with fail
            refine (take_any HSi.out).mono ?_
            rintro e w5 ⟨hd, ho5⟩
            obtain ⟨rfl, hs5⟩ : e = .returned (.tuple #[.int .i64 ((0 : Nat) : Int), .bool true]) ∧ SpAt w5 q i (t.set 0 true) := by
              rcases hd with ⟨j, rfl, hl, hs⟩ | ⟨rfl, hf, hs⟩
              · rcases j with _ | j
                · exact ⟨rfl, hs⟩
                · have h1 := hl.2.2 0 (by omega)
                  rw [HF.out 0 (by omega)] at h1
                  cases h1
              · have h1 := hf 0 (by omega)
                rw [HF.out 0 (by omega)] at h1
                cases h1
            have HS5 := hid hs5
            have HB5 := hid (HBi.out.trans (ho5.low HQ.out HBi.out.size))
            have hlen := HSi.out.len
            have HN5 : Hid (((nfree (t.set 0 true) i : Nat) : Int) = (i : Int) - 1) := by
              have h1 := nfree_take t 0 (by omega) (HF.out 0 (by omega)) i (by omega)
              rw [nfree_none t i HF.out] at h1
              show _ = _
              omega
            clear hd ho5 hs5 HSi HBi hlen
            have hi0 : (0 : Int) < (i : Int) := by omega
            have hi1 : ((i : Int) == 0) = false := by simp; omega
            go_wp2_with fail
            refine (free_any HS5.out).mono ?_
            rintro e w6 ⟨rfl, n6, rfl⟩
            rw [HN5.out]
            have HS6 := hid (HS5.out.drewN n6)
            have HB6 := hid (Below.drewN' HB5.out n6)
            generalize w5.drewN n6 = w6 at HS6 HB6 ⊢
            clear HS5 HB5
            go_wp2_with fail
            refine (give_no HS6.out i (by omega)).mono ?_
            rintro e w6 ⟨rfl, rfl⟩
            go_wp2_with fail
            refine (claim_no HS6.out (-1) (by omega)).mono ?_
            rintro e w7 ⟨rfl, rfl⟩
            go_wp2_with fail
            go_ret
            exact ⟨rfl, HB6.out⟩
set_option linter.unusedVariables false
set_option maxRecDepth 100000 in
theorem spaceAll_lifted (os : Os) (started : os.Started) (H : Type) (enc : TypeId × Value → H) :
    ReturnsInHanded {} Try.checked os 5 .any (Rows.spaceAllSpec.pre6 enc Try.prog Try.f5 Rows.spaceAllRow.domain false) (Rows.spaceAllSpec.post enc Try.prog Try.f5 false true false false) := by
  refine returnsInHanded_of_change (C := Try.checked) own started (by kernel_rfl) Try.func5
    (ChangeSpec.witness6 (enc := enc) (C := Try.checked) false ⟨#[], #[.int .u8 0, .int .u8 0], []⟩ 8 (by kernel_rfl) (by kernel_rfl) (by kernel_rfl) (by kernel_rfl)) ?_
  intro W base args ds gs before hval0 hW hcnd _
  have hval : ∀ (j : Nat) t v, Try.f5.params[j]? = some t → args[j]? = some v → Value.okWide Try.prog W .any base t v := hval0
  have hW' := hW
  obtain ⟨p, q, hA0, hV, rfl, hfz, hnd⟩ := hW
  have hA : DataW.TrodAll enc Try.prog W 0 (fun _ => true) true Try.f5.params.toList args.toList ds p := hA0
  rw [Try.params5] at hA hval
  obtain ⟨v0, vs0, d0, ds0, p0, q0, hargs, rfl, rfl, h0, r0⟩ := trodAll_cons hA
  obtain ⟨v1, vs1, d1, ds1, p1, q1, rfl, rfl, rfl, h1, r1⟩ := trodAll_cons r0
  obtain ⟨rfl, rfl, rfl⟩ := trodAll_nil r1
  obtain rfl : args = #[v0, v1] := by cases args; simp_all
  obtain ⟨rfl, rfl⟩ := trodVars_none hV
  obtain ⟨a0, rfl, rfl, rfl, w0⟩ := open_int Try.underlying5 (hval 0 5 v0 rfl rfl) h0
  obtain ⟨a1, rfl, rfl, rfl, w1⟩ := open_int Try.underlying5 (hval 1 5 v1 rfl rfl) h1
  clear hA0 hval0
  refine (spaceAll_walk W a0 w0 a1 w1).mono fun e W' ⟨he, bel⟩ => ?_
  subst he
  simp only [List.append_nil] at hW'
  exact ⟨_, rfl, _, _, _, [], _, [], hW', trodAll_mk1 (shut_bool Try.underlying4 _), (trodAll_cons_mk (shut_int Try.underlying5 w0) (trodAll_cons_mk (shut_int Try.underlying5 w1) trodAll_mk0)), rfl, bel.frame _, fun h => by cases h⟩

theorem spaceAll_over : Rows.spaceAllRow.holds Try.pinned (OpenSpec.ofChange Rows.spaceAllSpec) :=
  OpenClaim.holds_of_wide 5 Try.f5 rfl rfl rfl rfl rfl rfl rfl ⟨rfl, rfl, rfl, rfl, rfl⟩ rfl rfl rfl rfl rfl (by kernel_rfl) Try.func5 (by kernel_rfl)
    (of_decide_eq_true (by kernel_rfl)) (by unfold Func.isWrapper; first | (rw [if_pos (by decide +kernel)]; kernel_rfl) | (rw [if_neg (by decide +kernel)]; exact ⟨rfl, rfl⟩))
    (fun os started H enc _ => spaceAll_lifted os started H enc)
theorem spaceAll_holds : Rows.SpaceAllSaid := spaceAll_over
#print axioms spaceAll_holds
end Go.Proofs.Ytgnjhakakgkbaaa
