/- ChunkSets, as it is walked: set anew from its own records, in whatever order, a store has what it had. No condition. -/
import Derived.Test.YtenjhmlgimnnoaaSetsM
namespace Go.Proofs.Ytenjhmlgimnnoaa
open Go.ChangeShapes Go.WideShapes Go.ChangeAt Go.RowKit Pen
set_option maxRecDepth 4000
set_option linter.unusedVariables false
attribute [local go_sem ↓] Go.wp_at_zero Go.wp_at_succ
/-- Two stores that were just made, both without pieces. -/
def Empty (w : World) (q : Nat) : Prop := w.heap[q]? = some (.cells #[.map none, .map none, .int .i64 0] 55 (0, 0))
theorem Empty.ck {w : World} {q : Nat} (h : Empty w q) (base : Nat) : CkAt base w q 0 ⟨[], 0⟩ := ⟨ok_nil 0, Nat.zero_le _, none, none, h, .inl ⟨rfl, rfl, rfl⟩⟩
/-- Its numbers are 1, 2, 3 and so on. -/
def Lined (s : St) : Prop := s.last = s.ps.length ∧ ∀ (j : Nat) p, s.ps[j]? = some p → p.1 = j + 1
theorem Lined.more {s : St} (h : Lined s) (l : List Nat) : Lined ⟨s.ps ++ [(s.last + 1, l)], s.last + 1⟩ := by
  refine ⟨by simp [h.1], fun j p hp => ?_⟩
  by_cases hj : j < s.ps.length
  · rw [List.getElem?_append_left hj] at hp
    exact h.2 j p hp
  · rw [List.getElem?_append_right (by omega)] at hp
    have hj0 : j - s.ps.length = 0 := by
      have := (List.getElem?_eq_some_iff.1 hp).1
      simp at this
      omega
    rw [hj0] at hp
    simp at hp
    subst hp
    show s.last + 1 = j + 1
    rw [h.1]
    omega
theorem owns_cell27 {w : World} {b0 n : Nat} {v x : Value} {xs : List Value} (h : w.ownsRow b0 27 1 v n xs) {i : Nat} (hi : i < n) (hx : xs[i]? = some x) : ∃ g cap, v = .slice (some ⟨g, 0, none⟩) n cap ∧ w.cell? ⟨g, i, none⟩ = some x := by
  rcases h.2 with ⟨_, h0⟩ | ⟨g, cap, cur, rfl, hb, hg, hc, hm, hs, ht⟩
  · rw [h0] at hi; exact absurd hi (Nat.not_lt_zero _)
  · refine ⟨g, cap, rfl, ?_⟩
    rw [cell_of_row w g i cur 27 (0, 0) hg]
    rw [← ht, Nat.mul_one, List.getElem?_take, if_pos hi] at hx
    simpa using hx
set_option maxHeartbeats 8000000 in
theorem sets_walk {w : World} (a : Option Addr) (ls : List (List Nat)) (n cap : Nat) (hn : ls.length = n) (hg : Grid w a ls) (T : Nat) (hT : T < 256) :
    Calls Try.prog 6 #[.slice a n cap, .int .u8 (T : Int)] w fun e w' => e = .returned (.bool true) ∧ Below w.heap.size w w' := by
  by_cases h6 : 60 < n
  · have g6 : (60 : Int) < (n : Int) := by omega
    clear hn hg
    go_enter Try.func6, Try.ntmps6
    go_wp2_with fail
    refine (awake_any w).mono ?_
    rintro e w1 ⟨rfl, hb1⟩
    have HB1 := hid hb1
    clear hb1
    go_wp2_with fail
    go_ret
    exact ⟨rfl, HB1.out⟩
  have g6 : ¬ (60 : Int) < (n : Int) := by omega
  have HN := hid hn
  have HG := hid hg
  clear hn hg
  go_enter Try.func6, Try.ntmps6
  go_wp2_with fail
  refine (awake_any w).mono ?_
  rintro e w1 ⟨rfl, hb1⟩
  have HB1 := hid hb1
  clear hb1
  go_wp2_with fail
  refine (new_any (w := w1)).mono ?_
  rintro e w2 ⟨rfl, rfl⟩
  have hc0 : Empty (w1.alloc (.cells #[.map none, .map none, .int .i64 0] 55)) w1.heap.size := heap_alloc_new w1 _
  have HB2 := hid (HB1.out.trans ((Below.refl w.heap.size w1).alloc HB1.out.size (.cells #[.map none, .map none, .int .i64 0] 55)))
  have hs2 : (w1.alloc (.cells #[.map none, .map none, .int .i64 0] 55)).heap.size = w1.heap.size + 1 := by simp
  have hq : w.heap.size ≤ w1.heap.size := HB1.out.size
  generalize w1.alloc (.cells #[.map none, .map none, .int .i64 0] 55) = w2 at *
  obtain ⟨q, hqe⟩ : ∃ q, w1.heap.size = q := ⟨_, rfl⟩
  rw [hqe] at hc0 hs2 hq ⊢
  have HC0 := hid hc0
  have HS2 := hid hs2
  clear hc0 hs2 hqe
  go_wp2_with fail
  refine (new_any (w := w2)).mono ?_
  rintro e w3 ⟨rfl, rfl⟩
  have hd0 : Empty (w2.alloc (.cells #[.map none, .map none, .int .i64 0] 55)) w2.heap.size := heap_alloc_new w2 _
  have hb3 : Below w2.heap.size w2 (w2.alloc (.cells #[.map none, .map none, .int .i64 0] 55)) := (Below.refl _ w2).alloc (Nat.le_refl _) _
  have HB3 := hid (HB2.out.trans (hb3.mono HB2.out.size))
  have HC3 := hid ((hb3.block q (lt_of_some HC0.out)).trans HC0.out)
  have hs3 : (w2.alloc (.cells #[.map none, .map none, .int .i64 0] 55)).heap.size = w2.heap.size + 1 := by simp
  generalize w2.alloc (.cells #[.map none, .map none, .int .i64 0] 55) = w3 at *
  obtain ⟨d, hde⟩ : ∃ d, w2.heap.size = d := ⟨_, rfl⟩
  have HQD : Hid (d = q + 1 ∧ w3.heap.size = q + 2) := by have := HS2.out; show _ ∧ _; omega
  rw [hde] at hd0 ⊢
  have HD0 := hid hd0
  clear hd0 hb3 hs3 hde
  go_wp2_with fail
  go_loopg [7, 8] n (fun gk v7 v8 wr => ∃ (i : Nat) (s : St), i + gk = n ∧ v8 = .int .i64 (i : Int) ∧ Hid (CkAt (q + 2) wr q (2 * i) s) ∧ Hid (Below w.heap.size w wr ∧ q + 2 ≤ wr.heap.size) ∧ Hid (RecRow w.heap.size wr v7 s.ps) ∧ Hid (Empty wr d) ∧ Hid (Lined s) ∧ s.ps.length ≤ i)
  case atStart => exact ⟨0, ⟨[], 0⟩, by omega, rfl, hid (Empty.ck HC3.out _), hid ⟨HB3.out, by have := HQD.out; omega⟩, hid (RecRow.nil _ _), HD0, hid ⟨rfl, by simp⟩, Nat.le_refl _⟩
  case round =>
    obtain ⟨i, s, hi, rfl, HC, HBW, HRR, HE, HLN, hpl⟩ := hrel
    by_cases hlt' : i < n
    · have g3 : (i : Int) < (n : Int) := by omega
      obtain ⟨b, off, rfl, ai, ci, hcell, hrow⟩ := Grid.later' HG.out (i := i) (by rw [HN.out]; exact hlt')
      obtain ⟨l, hl⟩ : ∃ l, ls.getD i [] = l := ⟨_, rfl⟩
      rw [hl] at hcell hrow
      obtain ⟨m, hm⟩ : ∃ m, l.length = m := ⟨_, rfl⟩
      have HM := hid hm
      rw [hm] at hcell
      have hln := HLN.out.1
      have kp := put_any HC.out ai l m ci hm (hrow _ HBW.out.1) (by omega) (by omega) HBW.out.2
      have HCL := hid hcell
      have HROW := hid hrow
      have hc1 := hcell _ HBW.out.1
      clear hrow hl hm hcell
      by_cases hmay : 1 ≤ m ∧ m ≤ 64
      · cases ht : byText s.ps l with
        | some k =>
          rw [put_some (by rw [HM.out]; exact hmay) ht] at kp
          have KP := hid kp
          clear kp ht
          go_wp2_with fail
          refine KP.out.mono ?_
          rintro e w5 ⟨rfl, h5, hc5⟩
          have H5 := hid h5
          have HB5 := hid (And.intro (HBW.out.1.trans (hc5.below (by omega) (by omega) HBW.out.1.size)) (Nat.le_trans HBW.out.2 hc5.size))
          have HR5 := hid (HRR.out.chg hc5)
          have HE5 := hid (hc5.low d _ HE.out (by have := HQD.out; omega) (by have := HQD.out; omega))
          clear h5 hc5 KP hc1
          go_wp2_with fail
          go_roundg (gk - 1)
          case measure => omega
          case rel => exact ⟨i + 1, s, by omega, by go_num, hid (H5.out.mono (by omega)), HB5, HR5, HE5, HLN, by omega⟩
        | none =>
          rw [put_none (by rw [HM.out]; exact hmay) ht] at kp
          have hln2 := HLN.out.more l
          obtain ⟨id, hide⟩ : ∃ id, s.last + 1 = id := ⟨_, rfl⟩
          rw [hide] at kp hln2
          have HLN2 := hid hln2
          have KP := hid kp
          have hid61 : id ≤ 61 := by omega
          clear kp ht hln2 hide
          go_wp2_with fail
          refine KP.out.mono ?_
          rintro e w5 ⟨rfl, h5, hc5⟩
          have H5 := hid h5
          have HB5 := hid (And.intro (HBW.out.1.trans (hc5.below (by omega) (by omega) HBW.out.1.size)) (Nat.le_trans HBW.out.2 hc5.size))
          have HR5 := hid (HRR.out.chg hc5)
          have HE5 := hid (hc5.low d _ HE.out (by have := HQD.out; omega) (by have := HQD.out; omega))
          have hcl5 := HCL.out _ HB5.out.1
          clear h5 hc5 KP hc1
          go_wp2_with fail
          have krec := record_any w5 (id : Int) (by omega) ai l m ci HM.out (HROW.out _ HB5.out.1) (by omega)
          rw [Int.toNat_natCast] at krec
          refine krec.mono ?_
          rintro e w6 ⟨g6, c6, rfl, ho6, hb6⟩
          have hlt6 : ∀ x ∈ num id ++ text l, x < 256 := by
            intro x hx
            rcases List.mem_append.1 hx with h | h
            · exact num_lt _ x h
            · exact text_lt l (HROW.out _ HB5.out.1).1 x h
          obtain ⟨R6, hR6⟩ : ∃ R6, num id ++ text l = R6 := ⟨_, rfl⟩
          have hrec : recOf (id, l) = R6 := hR6
          rw [hR6] at ho6 hlt6 ⊢
          obtain ⟨k6, hk6⟩ : ∃ k6, R6.length = k6 := ⟨_, rfl⟩
          rw [hk6] at ho6 ⊢
          have hbr6 := brow_of_owns hk6 ho6 hlt6
          obtain ⟨xs, hx1, hxo, hx3⟩ := HR5.out.below hb6
          have hbal : Below w6.heap.size w6 (w6.alloc (.cells #[.slice (some ⟨g6, 0, none⟩) k6 c6] 27)) := (Below.refl _ w6).alloc (Nat.le_refl _) _
          have hy6 := heap_alloc_new w6 (.cells #[.slice (some ⟨g6, 0, none⟩) k6 c6] 27)
          have hxo2 := owns_keep hxo fun k cur _ _ hk => (hbal.block k (lt_of_some hk)).trans hk
          have hx32 : ∀ (j : Nat) r, s.ps[j]? = some r → ∃ b off c, xs[j]? = some (.slice (some ⟨b, off, none⟩) (recOf r).length c) ∧ BRow (w6.alloc (.cells #[.slice (some ⟨g6, 0, none⟩) k6 c6] 27)) (some ⟨b, off, none⟩) (recOf r) := fun j r hr => by
            obtain ⟨b', off', c', e1, e2⟩ := hx3 j r hr
            exact ⟨b', off', c', e1, e2.below hbal⟩
          have HBAL := hid hbal
          have HB6 := hid (HB5.out.1.trans ((hb6.trans (hbal.mono hb6.size)).mono HB5.out.1.size))
          have HBR6 := hid (hbr6.below hbal)
          have HXO := hid hxo2
          have HX3 := hid hx32
          have HY6 := hid hy6
          have H6 := hid ((H5.out.below hb6).below hbal)
          have HE6 := hid ((hbal.block d (lt_of_some ((hb6.block d (lt_of_some HE5.out)).trans HE5.out))).trans ((hb6.block d (lt_of_some HE5.out)).trans HE5.out))
          have hsz6 : q + 2 ≤ (w6.alloc (.cells #[.slice (some ⟨g6, 0, none⟩) k6 c6] 27)).heap.size := Nat.le_trans (Nat.le_trans HB5.out.2 hb6.size) hbal.size
          have HREC := hid hrec
          have HK6 := hid hk6
          clear hlt6 hrec ho6 hbr6 hx3 hxo hxo2 hx32 hy6 hbal hb6 hcl5 hR6 hk6
          have tok : True := trivial
          go_wp2_with (at_builtin; have _t := tok; refine wpList_app_one _ 49 27 rfl _ _ rfl 24 (.slice none 0 0) Try.underlying49 info40s rfl (by decide) w.heap.size _ s.ps.length xs rfl HXO.out w6.heap.size (.slice (some ⟨g6, 0, none⟩) k6 c6) rfl HY6.out rfl (by omega) HB6.out.size ?_; intro g9 cap9 w9 ho9 hg9 hat9; have HO9 := hid ho9; have HG9 := hid hg9; clear tok ho9 hg9 hat9)
          have hRR9 := RecRow.snoc (p := (id, l)) xs HBAL.out hx1 HX3.out HXO.out (by rw [HREC.out]; exact HK6.out) (by rw [HREC.out]; exact HBR6.out) HG9.out HO9.out
          have hC9 := H6.out.kept (kept27 HXO.out HG9.out)
          have hE9 := (grown27 HXO.out HG9.out).1 d _ HE6.out (by intro cur e; injection e with _ e2; exact absurd e2 (by decide))
          have hb9 := HB6.out.trans (below27 HXO.out HG9.out HB6.out.size)
          have hsz9 := Nat.le_trans hsz6 HG9.out.size
          have HRR9 := hid hRR9
          have HC9 := hid hC9
          have HE9 := hid hE9
          have HB9 := hid (And.intro hb9 hsz9)
          clear hRR9 hC9 hE9 hb9 hsz9 hsz6
          go_roundg (gk - 1)
          case measure => omega
          case rel => exact ⟨i + 1, ⟨s.ps ++ [(id, l)], id⟩, by omega, by go_num, hid (HC9.out.mono (by omega)), HB9, HRR9, HE9, HLN2, by simp; omega⟩
      · rw [put_not (by rw [HM.out]; exact hmay)] at kp
        have KP := hid kp
        clear kp
        go_wp2_with fail
        refine KP.out.mono ?_
        rintro e w5 ⟨rfl, h5, hc5⟩
        have H5 := hid h5
        have HB5 := hid (And.intro (HBW.out.1.trans (hc5.below (by omega) (by omega) HBW.out.1.size)) (Nat.le_trans HBW.out.2 hc5.size))
        have HR5 := hid (HRR.out.chg hc5)
        have HE5 := hid (hc5.low d _ HE.out (by have := HQD.out; omega) (by have := HQD.out; omega))
        clear h5 hc5 KP hc1
        go_wp2_with fail
        go_roundg (gk - 1)
        case measure => omega
        case rel => exact ⟨i + 1, s, by omega, by go_num, hid (H5.out.mono (by omega)), HB5, HR5, HE5, HLN, by omega⟩
    · have g3 : ¬ (i : Int) < (n : Int) := by omega
      obtain ⟨xs, hx1, hxo, hx3⟩ := HRR.out
      obtain ⟨a7, c7, rfl, _⟩ := owns_shape hxo
      obtain ⟨K, hK⟩ : ∃ K, s.ps.length = K := ⟨_, rfl⟩
      have HK := hid hK
      have HXO := hid hxo
      have HX3 := hid hx3
      rw [hK] at HXO hx1 hpl ⊢
      have HOK := hid HC.out.ok
      obtain ⟨Bd, hBd⟩ : ∃ Bd, wr.heap.size = Bd := ⟨_, rfl⟩
      have HBD := hid hBd
      have hq2 : q + 2 ≤ Bd := by rw [← hBd]; exact HBW.out.2
      clear hK hxo hx3 hBd HB3 HC3 HD0
      obtain ⟨wA, hwA⟩ : ∃ wA, wA = wr := ⟨_, rfl⟩
      subst hwA
      go_wp2_with fail
      go_loopg [12] K (fun gk v12 wr => ∃ (t : Nat) (sd : St), t + gk = K ∧ v12 = .int .i64 (t : Int) ∧ Hid (CkAt Bd wr d (6 * t) sd) ∧ Hid (Chg d Bd wA wr) ∧ Hid (sd.ps = rot s.ps T t) ∧ sd.last ≤ K)
      case atStart => exact ⟨0, ⟨[], 0⟩, by omega, rfl, hid (Empty.ck HE.out _), hid (Chg.refl _ _ _), hid rfl, Nat.zero_le _⟩
      case round =>
        obtain ⟨t, sd, ht, rfl, HCD, HX, HPS, hsl⟩ := hrel
        have hBdw : Bd ≤ wr.heap.size := by have := HX.out.size; have := HBD.out; omega
        have hbw2 : Below w.heap.size w wr := HBW.out.1.trans (HX.out.below (by have := HQD.out; omega) (by omega) HBW.out.1.size)
        by_cases hlt2 : t < K
        · have g4 : (t : Int) < (K : Int) := by omega
          have gK0 : ((K : Int) == 0) = false := by simp; omega
          obtain ⟨j, hj⟩ : ∃ j, (t + T) % K = j := ⟨_, rfl⟩
          have hjK : j < K := by rw [← hj]; exact Nat.mod_lt _ (by omega)
          have gr : ((t : Int) + (T : Int)) % (K : Int) = (j : Int) := by rw [← hj]; push_cast; rfl
          have gr2 : Int.tmod ((t : Int) + (T : Int)) (K : Int) = (j : Int) := by rw [Int.tmod_eq_emod_of_nonneg (by omega), gr]
          have hps : s.ps[j]? = some (s.ps.getD j (0, [])) := getD_of (by rw [HK.out]; exact hjK)
          have hfr := rot_fresh HOK.out (T := T) (i := t) (by rw [HK.out]; exact hlt2) (p := s.ps.getD j (0, [])) (by rw [HK.out, hj]; exact hps)
          have hrs := rot_snoc s.ps T t
          rw [HK.out, hj] at hrs
          obtain ⟨p, hp⟩ : ∃ p, s.ps.getD j (0, []) = p := ⟨_, rfl⟩
          rw [hp] at hps hfr hrs
          rw [← HPS.out] at hfr hrs
          have hpos := HOK.out.pos p (List.mem_of_getElem? hps)
          have hid1 := HLN.out.2 j p hps
          obtain ⟨b, off, cx, hx4, hbr⟩ := HX3.out j p hps
          obtain ⟨g7, cap7, hve, hcell⟩ := owns_cell27 HXO.out hjK hx4
          simp only [Value.slice.injEq, true_and] at hve
          obtain ⟨rfl, rfl⟩ := hve
          have hg7lt := block_lt_of_cell hcell
          have hcell2 : wr.cell? ⟨g7, j, none⟩ = some (.slice (some ⟨b, off, none⟩) (recOf p).length cx) := by
            obtain ⟨_, cur, hcur⟩ := owns_in HXO.out (by simp [Value.ownBlock] : (Value.slice (some ⟨g7, 0, none⟩) K c7).ownBlock = some g7)
            have := HX.out.typ g7 cur 27 (0, 0) hcur (by decide) (by decide)
            rw [cell_of_row wr g7 j cur 27 (0, 0) this, ← cell_of_row wA g7 j cur 27 (0, 0) hcur]
            exact hcell
          have hbr2 := hbr.chg HX.out
          have kpar := parse_any wr (some ⟨b, off, none⟩) (recOf p) (recOf p).length cx rfl hbr2.1
          have hprec : parse (recOf p) = some (p.1, p.2) := parse_rec p.1 p.2 (by omega) (by omega)
          rw [hprec] at kpar
          obtain ⟨rl, hrl⟩ : ∃ rl, (recOf p).length = rl := ⟨_, rfl⟩
          rw [hrl] at hcell2 kpar
          have KPAR := hid kpar
          have HFR := hid hfr
          have HRS := hid hrs
          have HPOS := hid hpos
          have hp61 : p.1 ≤ 60 := by omega
          clear hcell hbr hbr2 hx4 hps hprec kpar hfr hrs hpos hj hp hrl hg7lt hid1
          go_wp2_with fail
          refine KPAR.out.mono ?_
          rintro e w5 ⟨⟨a3, c3, rfl, hbr3⟩, hb5⟩
          have h5 := HCD.out.below hb5
          have hX5 := HX.out.trans (Chg.of_below hb5)
          obtain ⟨id, hide⟩ : ∃ id, p.1 = id := ⟨_, rfl⟩
          obtain ⟨tx, htx⟩ : ∃ tx, p.2 = tx := ⟨_, rfl⟩
          have hpe : p = (id, tx) := Prod.ext hide htx
          rw [hide, htx] at HFR HPOS
          rw [hpe] at HRS
          rw [hide] at hp61
          rw [htx] at hbr3 
          have hmm : 1 ≤ tx.length ∧ tx.length ≤ 64 := ⟨HPOS.out.2.2.1, HPOS.out.2.2.2.1⟩
          obtain ⟨m, hm⟩ : ∃ m, tx.length = m := ⟨_, rfl⟩
          have HM := hid hm
          have hwf : (Lit.int .i64 (id : Int)).wf = true := i64_wf (by omega) (by omega)
          have hwf3 : (Lit.int .i64 ((id : Int) + 1000)).wf = true := i64_wf (by omega) (by omega)
          have ks := set_any h5 (id : Int) hwf a3 tx m c3 hm hbr3.1 (by omega) (by omega) (Nat.le_trans hBdw hb5.size)
          rw [set_ok ⟨by have := HPOS.out.1; omega, by omega, hmm.1, hmm.2⟩ HFR.out.1 HFR.out.2, Int.toNat_natCast] at ks
          have KS := hid ks
          have HBR5 := hid hbr3
          have HX5 := hid hX5
          have hsz5 : Bd ≤ w5.heap.size := Nat.le_trans hBdw hb5.size
          simp only [hide, htx, hm]
          clear ks hbr3 hX5 hb5 h5 hcell2 KPAR hide htx hpe hm
          go_wp2_with fail
          refine KS.out.mono ?_
          rintro e w6 ⟨rfl, h6, hc6⟩
          have HX6 := hid (HX5.out.trans hc6)
          have HBR6 := hid (HBR5.out.chg hc6)
          have hsz6 : Bd ≤ w6.heap.size := Nat.le_trans hsz5 hc6.size
          have hmx : max sd.last id ≤ 60 := by omega
          have k2 := set_any h6 (id : Int) hwf a3 tx m c3 HM.out HBR6.out.1 (by omega) (by show max sd.last id < _; omega) hsz6
          have hby6 : byId (sd.ps ++ [(id, tx)]) (id : Int) ≠ none := by rw [byId_add HFR.out.1, if_pos rfl]; simp
          have hbt6 : byText (sd.ps ++ [(id, tx)]) tx ≠ none := by
            intro h
            exact byText_none.1 h (id, tx) (by simp) rfl
          rw [set_there (s := ⟨sd.ps ++ [(id, tx)], max sd.last id⟩) ⟨by have := HPOS.out.1; omega, by omega, hmm.1, hmm.2⟩ (.inl hby6)] at k2
          have K2 := hid k2
          have HBT := hid hbt6
          clear k2 h6 hc6 hby6 hbt6 KS
          go_wp2_with fail
          refine K2.out.mono ?_
          rintro e w7 ⟨rfl, h7, hc7⟩
          have HX7 := hid (HX6.out.trans hc7)
          have HBR7 := hid (HBR6.out.chg hc7)
          have hsz7 : Bd ≤ w7.heap.size := Nat.le_trans hsz6 hc7.size
          have k3 := set_any h7 ((id : Int) + 1000) hwf3 a3 tx m c3 HM.out HBR7.out.1 (by omega) (by show max sd.last id < _; omega) hsz7
          rw [set_there (s := ⟨sd.ps ++ [(id, tx)], max sd.last id⟩) ⟨by omega, by omega, hmm.1, hmm.2⟩ (.inr HBT.out)] at k3
          have K3 := hid k3
          clear k3 h7 hc7 K2
          go_wp2_with fail
          refine K3.out.mono ?_
          rintro e w8 ⟨rfl, h8, hc8⟩
          have HX8 := hid (HX7.out.trans hc8)
          have H8 := hid h8
          have hidK : id ≤ K := by have := HPOS.out.2.1; have := HLN.out.1; have := HK.out; omega
          clear h8 hc8 K3
          go_wp2_with fail
          go_roundg (gk - 1)
          case measure => omega
          case rel => exact ⟨t + 1, ⟨sd.ps ++ [(id, tx)], max sd.last id⟩, by omega, by go_num, hid (H8.out.mono (by omega)), HX8, hid HRS.out.symm, by show max sd.last id ≤ K; omega⟩
        · have g4 : ¬ (t : Int) < (K : Int) := by omega
          obtain rfl : t = K := by omega
          have hperm : sd.ps.Perm s.ps := by
            have h2 : Ok (rot s.ps T s.ps.length) sd.last := by have := HCD.out.ok; rwa [HPS.out, ← HK.out] at this
            have := rot_perm HOK.out T h2
            rw [HK.out] at this
            rwa [← HPS.out] at this
          have hks := HK.out
          have hlen : sd.ps.length = t := by rw [HPS.out, rot_len]
          have hbz : bytes sd.ps = bytes s.ps := perm_bytes hperm
          have hids : idsOf sd.ps = idsOf s.ps := perm_ids hperm
          have hsk : sd.last = s.last := by
            have e1 := HLN.out.1
            by_cases h0 : t = 0
            · omega
            · have hp0 : s.ps[t - 1]? = some (s.ps.getD (t - 1) (0, [])) := getD_of (by omega)
              have e2 := HLN.out.2 _ _ hp0
              have e3 := (HCD.out.ok.pos _ (hperm.mem_iff.2 (List.mem_of_getElem? hp0))).2.1
              omega
          have hCk : CkAt (q + 2) wr q (2 * i) s := HC.out.kept ⟨HX.out.size, fun k o hk hf _ => HX.out.low k o hk (by have := lt_of_some hk; have := HBD.out; omega) (by have := HQD.out; rcases hf with h | h <;> omega)⟩
          have HCC := hid hCk
          have HPERM := hid hperm
          have HSK := hid hsk
          have hbz2 := bytes_le HOK.out
          have hs60 : s.last ≤ 60 := by have := HLN.out.1; omega
          obtain ⟨Z, hZ⟩ : ∃ Z, bytes s.ps = Z := ⟨_, rfl⟩
          rw [hZ] at hbz hbz2
          have HZ := hid (And.intro hZ hbz)
          have HIDS := hid hids
          have HBW2 := hid hbw2
          have hidl : (idsOf s.ps).length = t := by rw [idsOf_len]; exact hks
          have HIDL := hid hidl
          clear hperm hsk hCk hZ hbz hids hbw2 hlen hBdw hidl
          go_wp2_with fail
          refine (ids_any HCC.out (by omega)).mono ?_
          rintro e w5 ⟨v5, rfl, hv5, hb5⟩
          obtain ⟨a5, c5, rfl, _⟩ := owns_shape hv5
          have HV5 := hid hv5
          have HCC5 := hid (HCC.out.below hb5)
          have HCD5 := hid (HCD.out.below hb5)
          have HB5 := hid (HBW2.out.trans (hb5.mono HBW2.out.size))
          rw [HIDL.out] at HV5 ⊢
          clear hv5 hb5
          go_wp2_with fail
          refine (ids_any HCD5.out (by omega)).mono ?_
          rintro e w6 ⟨v6, rfl, hv6, hb6⟩
          rw [HIDS.out, HIDL.out] at hv6
          obtain ⟨a6, c6, rfl, _⟩ := owns_shape hv6
          have HV6 := hid hv6
          have HV56 := hid (owns_keep HV5.out fun k cur _ _ hk => (hb6.block k (lt_of_some hk)).trans hk)
          have HCC6 := hid (HCC5.out.below hb6)
          have HCD6 := hid (HCD5.out.below hb6)
          have HB6 := hid (HB5.out.trans (hb6.mono HB5.out.size))
          clear hv6 hb6
          go_wp2_with fail
          refine (size_any HCC6.out (by omega)).mono ?_
          rintro e w7 ⟨rfl, hb7⟩
          have HV7 := hid (owns_keep HV6.out fun k cur _ _ hk => (hb7.block k (lt_of_some hk)).trans hk)
          have HV57 := hid (owns_keep HV56.out fun k cur _ _ hk => (hb7.block k (lt_of_some hk)).trans hk)
          have HCC7 := hid (HCC6.out.below hb7)
          have HCD7 := hid (HCD6.out.below hb7)
          have HB7 := hid (HB6.out.trans (hb7.mono HB6.out.size))
          rw [HZ.out.1]
          clear hb7
          go_wp2_with fail
          refine (size_any HCD7.out (by omega)).mono ?_
          rintro e w8 ⟨rfl, hb8⟩
          have HV8 := hid (owns_keep HV7.out fun k cur _ _ hk => (hb8.block k (lt_of_some hk)).trans hk)
          have HV58 := hid (owns_keep HV57.out fun k cur _ _ hk => (hb8.block k (lt_of_some hk)).trans hk)
          have HCC8 := hid (HCC7.out.below hb8)
          have HCD8 := hid (HCD7.out.below hb8)
          have HB8 := hid (HB7.out.trans (hb8.mono HB7.out.size))
          rw [HZ.out.2]
          clear hb8
          obtain ⟨nx1, hnx⟩ : ∃ nx1, s.last + 1 = nx1 := ⟨_, rfl⟩
          have HNX := hid hnx
          clear hnx
          go_wp2_with fail
          refine (next_any HCC8.out (by omega)).mono ?_
          rintro e w9 ⟨rfl, rfl⟩
          rw [HNX.out]
          go_wp2_with fail
          refine (next_any HCD8.out (by omega)).mono ?_
          rintro e w10 ⟨rfl, rfl⟩
          rw [HSK.out, HNX.out]
          go_wp2_with fail
          go_loopg [18] t (fun gk v18 wr => ∃ u : Nat, u + gk = t ∧ v18 = .int .i64 (u : Int) ∧ Hid (Below w10.heap.size w10 wr))
          case atStart => exact ⟨0, by omega, rfl, hid (Below.refl _ _)⟩
          case round =>
            obtain ⟨u, hu, rfl, HBL⟩ := hrel
            have hbwr := HB8.out.trans (HBL.out.mono HB8.out.size)
            by_cases hlt3 : u < t
            · have g5 : (u : Int) < (t : Int) := by omega
              obtain ⟨g5', cap5, hve5, hcell5, hg5lt⟩ := owns_cell HIDL.out HV58.out hlt3
              simp only [Value.slice.injEq, true_and] at hve5
              obtain ⟨rfl, rfl⟩ := hve5
              obtain ⟨g6', cap6, hve6, hcell6, hg6lt⟩ := owns_cell HIDL.out HV8.out hlt3
              simp only [Value.slice.injEq, true_and] at hve6
              obtain ⟨rfl, rfl⟩ := hve6
              have hxm : (idsOf s.ps).getD u 0 ∈ idsOf s.ps := by
                rw [List.getD_eq_getElem?_getD, List.getElem?_eq_getElem (by rw [HIDL.out]; exact hlt3)]
                exact List.getElem_mem _
              obtain ⟨x, hx⟩ : ∃ x, (idsOf s.ps).getD u 0 = x := ⟨_, rfl⟩
              rw [hx] at hcell5 hcell6 hxm
              cases hby : byId s.ps x with
              | none => exact absurd hby (idsOf_mem.1 hxm)
              | some b =>
                have hby2 := perm_byId HPERM.out HCD8.out.ok HOK.out x
                rw [hby] at hby2
                obtain ⟨id, rfl, hmem⟩ := byId_some hby
                have hpos := HOK.out.pos _ hmem
                have hlt256 : ∀ y ∈ b, y < 256 := hpos.2.2.2.2
                have hid60 : id ≤ 60 := Nat.le_trans hpos.2.1 hs60
                have hwf : (Lit.int .i64 (id : Int)).wf = true := i64_wf (by omega) (by omega)
                have HBY := hid hby
                have HBY2 := hid hby2
                have hc5 : ∀ W, Below w10.heap.size w10 W → W.cell? ⟨g5', u, none⟩ = some (.int .i64 (id : Int)) := fun W hW => (hW.cell (p := ⟨g5', u, none⟩) hg5lt).trans hcell5
                have hc6 : ∀ W, Below w10.heap.size w10 W → W.cell? ⟨g6', u, none⟩ = some (.int .i64 (id : Int)) := fun W hW => (hW.cell (p := ⟨g6', u, none⟩) hg6lt).trans hcell6
                have HC5 := hid hc5
                have HC6 := hid hc6
                have h5r := hc5 _ HBL.out
                clear hxm hx hby hby2 hmem hpos hcell5 hcell6 hg5lt hg6lt hc5 hc6
                go_wp2_with fail
                refine (get_any (HCC8.out.below HBL.out) (id : Int) hwf).mono ?_
                rintro e w11 ⟨v11, rfl, hgot, hb11⟩
                rw [HBY.out] at hgot ⊢
                obtain ⟨g11, c11, rfl, ho11⟩ := hgot
                have hBL11 := HBL.out.trans (hb11.mono HBL.out.size)
                have h6r := HC6.out _ hBL11
                have HB11 := hid hBL11
                have HO11 := hid ho11
                simp only [Option.isSome_some]
                clear hb11 ho11 h5r hBL11
                go_wp2_with fail
                refine (get_any (HCD8.out.below HB11.out) (id : Int) hwf).mono ?_
                rintro e w12 ⟨v12, rfl, hgot, hb12⟩
                rw [HBY2.out] at hgot ⊢
                obtain ⟨g12, c12, rfl, ho12⟩ := hgot
                have hBL12 := HB11.out.trans (hb12.mono HB11.out.size)
                have ho11' := owns_keep HO11.out fun k cur _ _ hk => (hb12.block k (lt_of_some hk)).trans hk
                have hr11 := (row_of_owns' rfl ho11' hlt256).2
                have hr12 := (row_of_owns' rfl ho12 hlt256).2
                have hca : ∀ W, Below w12.heap.size w12 W → (convert 27 9 (.slice (some ⟨g11, 0, none⟩) b.length c11)).run Try.prog W = .ok (.string (strOf b)) W := fun W hW => str_any W _ b _ c11 rfl (hr11.below hW)
                have hcb : ∀ W, Below w12.heap.size w12 W → (convert 27 9 (.slice (some ⟨g12, 0, none⟩) b.length c12)).run Try.prog W = .ok (.string (strOf b)) W := fun W hW => str_any W _ b _ c12 rfl (hr12.below hW)
                have hf5 : ∀ W, Below w12.heap.size w12 W → W.cell? ⟨g5', u, none⟩ = some (.int .i64 (id : Int)) := fun W hW => HC5.out W (hBL12.trans (hW.mono hBL12.size))
                have hf6 : ∀ W, Below w12.heap.size w12 W → W.cell? ⟨g6', u, none⟩ = some (.int .i64 (id : Int)) := fun W hW => HC6.out W (hBL12.trans (hW.mono hBL12.size))
                have HB12 := hid hBL12
                have hz12 := (Below.refl w12.heap.size w12).drew
                obtain ⟨S, hS⟩ : ∃ S, strOf b = S := ⟨_, rfl⟩
                obtain ⟨m, hm⟩ : ∃ m, b.length = m := ⟨_, rfl⟩
                rw [hS, hm] at hca hcb
                rw [hm]
                simp only [Option.isSome_some]
                clear hb12 ho12 ho11' hr11 hr12 hBL12 hS hm hlt256 h6r
                go_wp2_with fail
                go_region_held (fun W => Below w12.heap.size w12 W) (first | assumption) (fail)
                have HB13 := hid (HB12.out.trans (hz12.mono HB12.out.size))
                clear hca hcb hf5 hf6 hz12
                go_wp2_with fail
                go_roundg (gk - 1)
                case measure => omega
                case rel => exact ⟨u + 1, by omega, by go_num, HB13⟩
            · have g5 : ¬ (u : Int) < (t : Int) := by omega
              have HBE := hid hbwr
              clear hbwr
              go_wp2_with fail
              go_ret
              exact ⟨rfl, HBE.out⟩
end Go.Proofs.Ytenjhmlgimnnoaa
