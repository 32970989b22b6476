/- Read once more: that the record is new memory. Condition: what comes in is at most nine hundred million bytes. -/
import Derived.Test.YteohjfhflodklaaFrB
namespace Go.Proofs.Yteohjfhflodklaa
open Go.RowKit Pen
open Crc (four nx run)
set_option maxRecDepth 4000
/-- What a reading of a frame answers, in new memory. -/
def Readn (base : Nat) (w' : World) (last : Nat) (o : Option (List Nat × Nat)) (e : Ending) : Prop :=
  match o with
  | none => e = .returned (.tuple #[.slice none 0 0, .int .i64 0, .int .u32 0, .bool false])
  | some (r, b) => ∃ g n cap, e = .returned (.tuple #[.slice (some ⟨g, 0, none⟩) n cap, .int .i64 (b : Int), .int .u32 (nx last r : Nat), .bool true]) ∧ r.length = n ∧ Row w' (some ⟨g, 0, none⟩) r ∧ base ≤ g ∧ n ≤ cap
set_option maxHeartbeats 1000000 in
theorem clone_new {w : World} (ad : Addr) (l : List Nat) (n cap : Nat) (hn : l.length = n) (hr : Row w (some ad) l) (hne : l ≠ []) (hl : l.length ≤ 900000000) :
    Calls Try.prog 65 #[.slice (some ad) n cap] w fun e w' => ∃ g cap', e = .returned (.slice (some ⟨g, 0, none⟩) n cap') ∧ Row w' (some ⟨g, 0, none⟩) l ∧ Below w.heap.size w w' ∧ n ≤ cap' ∧ w.heap.size ≤ g := by
  have HN : Hid (l.length = n) := hn
  have HR : Hid (Row (w.alloc (.cells #[] 5)) (some ad) l) := hr.below ((Below.refl _ w).alloc (Nat.le_refl _) _)
  have HOW : Hid ((w.alloc (.cells #[] 5)).ownsRow w.heap.size 5 1 (.slice (some ⟨w.heap.size, 0, none⟩) 0 0) ([] : List Nat).length (vals [])) := owns_empty w
  have HS : Hid (([] : List Nat).length + l.length ≤ 1000000000) := by show _ ≤ _; simp; omega
  have HB : Hid (w.heap.size ≤ (w.alloc (.cells #[] 5)).heap.size) := by show _ ≤ _; simp
  have hlt := hr.1
  have heq := fun w => eq_nil_some w ad n cap
  clear hn hr
  go_enter Try.func65, Try.ntmps65
  have tok : True := trivial
  go_wp2_with (at_builtin; have _t := tok; refine wpList_append_row _ rfl _ _ rfl w.heap.size (.slice (some ⟨w.heap.size, 0, none⟩) 0 0) [] rfl HOW.out _ l n cap rfl HN.out HR.out hne HS.out HB.out ?_; intro g m cap' w1 hm hown1 hg1 hat; rw [List.nil_append] at hm hown1; have HX := hid hown1; have HG := hid hg1; have HM := hid hm; clear tok hm hown1 hg1 hat)
  go_ret
  have e1 := HM.out
  subst e1
  obtain ⟨a, c, e, h1, h2, h3⟩ := row_of_owns HX.out hlt
  simp at e
  obtain ⟨rfl, rfl⟩ := e
  have hb := ((Below.refl w.heap.size w).alloc (Nat.le_refl _) (.cells #[] 5)).grown HG.out HB.out (fun k hk => by simp [Value.ownBlock] at hk; omega)
  refine ⟨g, cap', by rw [← HN.out]; rfl, h3, hb, by rw [← HN.out]; exact h1, ?_⟩
  rcases HX.out.2 with ⟨e, _⟩ | ⟨g', c', cur, e, hb', _⟩
  · simp at e
  · simp at e
    omega
set_option maxRecDepth 10000 in
set_option maxHeartbeats 4000000 in
theorem read_new (last : Nat) (a : Option Addr) (X : List Nat) (n cap : Nat) (w : World) (hlast : last < 4294967296) (hn : X.length = n) (hcap : n ≤ cap) (hr : Row w a X) :
    Calls Try.prog 57 #[.int .u32 (last : Int), .slice a n cap] w fun e w' => Readn w.heap.size w' last (rd last X) e ∧ Below w.heap.size w w' := by
  by_cases h12 : n < 12
  · have HRD : Hid (rd last X = none) := rd_no (by omega)
    have hi : (n : Int) < 12 := by omega
    clear hr hn hlast
    go_enter Try.func57, Try.ntmps57
    go_wp2_with fail
    refine bodyPost_ret (results_tmp4 rfl _ _ _) rfl ?_
    rw [HRD.out]
    exact ⟨rfl, Below.refl _ _⟩
  have hi : ¬ (n : Int) < 12 := by omega
  have k1 : NumAt w (.slice a n cap) (le (X.take 4)) := ⟨a, X, n, cap, rfl, hn, hcap, by omega, hr, rfl⟩
  have hr4 := row_drop hr 4 cap (by omega)
  have k2 : NumAt w (.slice (fromA a 4 cap) (n - 4) (cap - 4)) (le ((X.drop 4).take 4)) := ⟨_, X.drop 4, n - 4, cap - 4, rfl, by rw [List.length_drop]; omega, by omega, by omega, hr4, rfl⟩
  have hsl : ∀ w, (Instr.slice 40 (.slice a n cap) (some (.int .i64 4)) none none).run Try.prog w = .ok (.slice (fromA a 4 cap) (n - 4) (cap - 4)) w := fun w => slice_from w a n cap 4 (by omega)
  have hBlt : le ((X.drop 4).take 4) < 4294967296 := by
    have h := le_lt ((X.drop 4).take 4) (fun x hx => hr.1 x (List.mem_of_mem_drop (List.mem_of_mem_take hx)))
    rw [List.length_take, List.length_drop, Nat.min_eq_left (by omega)] at h
    have e : (256 : Nat) ^ 4 = 4294967296 := by decide
    omega
  have HNO : Hid (¬ (1 ≤ le (X.take 4) ∧ le (X.take 4) ≤ 16384 ∧ le (X.take 4) + 16 ≤ n ∧ le ((X.drop 4).take 4) < 2147483648) → rd last X = none) := fun h => rd_no (by rw [hn]; exact h)
  have HYE : Hid (1 ≤ le (X.take 4) ∧ le (X.take 4) ≤ 16384 ∧ le (X.take 4) + 16 ≤ n ∧ le ((X.drop 4).take 4) < 2147483648 → rd last X = if mk last (le ((X.drop 4).take 4)) ((X.drop 12).take (le (X.take 4))) = X.take (le (X.take 4) + 16) then some ((X.drop 12).take (le (X.take 4)), le ((X.drop 4).take 4)) else none) := fun h => rd_yes rfl rfl rfl (by rw [hn]; exact h)
  have HR := hid hr
  have HLN := hid hn
  have HLA := hid hlast
  generalize le (X.take 4) = L at *
  generalize le ((X.drop 4).take 4) = B at *
  generalize fromA a 4 cap = a4 at *
  generalize rd last X = o at *
  clear hr hr4 hn hlast
  go_enter Try.func57, Try.ntmps57
  go_wp2_with fail
  go_quiet (exact numq (by assumption) _)
  have hbq : Below w.heap.size w (w.drewN nq) := ⟨rfl, rfl, rfl, Nat.le_refl _, fun _ _ => rfl⟩
  have HBQ := hid hbq
  clear k1 k2 hsl hbq
  generalize w.drewN nq = v at *
  have HK := hid (size_any (L : Int) v)
  by_cases hL : 1 ≤ L ∧ L ≤ 16384
  · rw [siz_yes (by omega), show (L : Int) + 16 = ((L + 16 : Nat) : Int) by omega] at HK
    obtain ⟨S, hS⟩ : ∃ S, L + 16 = S := ⟨_, rfl⟩
    rw [hS] at HK HNO HYE
    have hS0 : ((S : Int) == 0) = false := by simp; omega
    have HSS := hid hS
    by_cases hfit : S ≤ n
    · have hf : ¬ (n : Int) < (S : Int) := by omega
      have hsm : ∀ w, (Instr.slice 40 (.slice a n cap) (some (.int .i64 12)) (some (.int .i64 (12 + (L : Int)))) none).run Try.prog w = .ok (.slice (fromA a 12 cap) L (cap - 12)) w := fun w => by
        have h := slice_mid w a n cap 12 (12 + L) (by omega) (by omega)
        rw [show 12 + L - 12 = L by omega] at h
        exact h
      have hst : ∀ w, (Instr.slice 40 (.slice a n cap) none (some (.int .i64 (S : Int))) none).run Try.prog w = .ok (.slice a S cap) w := fun w => slice_to w a n cap S (by omega)
      have hr12 := row_take (row_drop (HR.out.below HBQ.out) 12 cap (by have := HLN.out; omega)) L
      have hl12 : ((X.drop 12).take L).length = L := by rw [List.length_take, List.length_drop]; have := HLN.out; omega
      have hne : (X.drop 12).take L ≠ [] := fun e => by rw [e] at hl12; simp at hl12; omega
      obtain ⟨b12, o12, ha12, _, _⟩ : ∃ b off, fromA a 12 cap = some ⟨b, off, none⟩ ∧ b < v.heap.size ∧ ∀ i, i < ((X.drop 12).take L).length → v.cell? ⟨b, off + i, none⟩ = some (.int .u8 (((X.drop 12).take L).getD i 0 : Nat)) := by
        rcases hr12.2 with h | h
        · exact absurd h hne
        · exact h
      rw [ha12] at hsm hr12
      have HCL := hid (clone_new ⟨b12, o12, none⟩ _ L (cap - 12) hl12 hr12 hne (by omega))
      have HRT := hid (row_take HR.out S)
      have HRTL : Hid ((X.take S).length = S) := by show _ = _; rw [List.length_take]; have := HLN.out; omega
      have HL12 := hid hl12
      have HR256 : Hid (∀ x ∈ (X.drop 12).take L, x < 256) := hr12.1
      generalize (X.drop 12).take L = r at *
      generalize X.take S = T at *
      clear hr12 hl12 hne ha12
      go_wp2_with fail
      refine HK.out.mono ?_
      rintro e v1 ⟨rfl, rfl⟩
      clear HK
      go_wp2_with fail
      refine HCL.out.mono ?_
      rintro e w2 ⟨g, c2, rfl, hr2, hb2, hcap2, hg2⟩
      have HG2 := hid (Nat.le_trans HBQ.out.size hg2)
      have HC2 := hid hcap2
      clear hcap2 hg2
      have HR2 := hid hr2
      have HB2 := hid (HBQ.out.trans (hb2.mono HBQ.out.size))
      clear HCL hr2 hb2
      by_cases hB : B < 2147483648
      · have HYY := hid (HYE.out ⟨hL.1, hL.2, hfit, hB⟩)
        go_wp2_with fail
        refine (make_any last B _ r L c2 w2 HLA.out hB HL12.out hL.1 hL.2 HR2.out).mono ?_
        rintro e w3 ⟨g3, c3, rfl, hm3, hb3⟩
        rw [HSS.out] at hm3 ⊢
        have HE := hid (equal_any (some ⟨g3, 0, none⟩) a (mk last B r) T S S c3 cap hm3.1 HRTL.out hm3.row.2 (HRT.out.below (HB2.out.trans (hb3.mono HB2.out.size))))
        have HB3 := hid (HB2.out.trans (hb3.mono HB2.out.size))
        have HR3 := hid (HR2.out.below hb3)
        clear hm3 hb3 HB2 HR2
        by_cases hE : mk last B r = T
        · rw [decide_eq_true hE] at HE
          rw [if_pos hE] at HYY
          clear hE
          go_wp2_with fail
          refine HE.out.mono ?_
          rintro e w4 ⟨rfl, rfl⟩
          go_wp2_with fail
          refine bodyPost_ret (results_tmp4 rfl _ _ _) rfl ?_
          rw [HYY.out]
          exact ⟨⟨_, _, _, rfl, HL12.out, HR3.out, HG2.out, HC2.out⟩, HB3.out⟩
        · rw [decide_eq_false hE] at HE
          rw [if_neg hE] at HYY
          clear hE
          go_wp2_with fail
          refine HE.out.mono ?_
          rintro e w4 ⟨rfl, rfl⟩
          go_wp2_with fail
          refine bodyPost_ret (results_tmp4 rfl _ _ _) rfl ?_
          rw [HYY.out]
          exact ⟨rfl, HB3.out⟩
      · have HNN := hid (HNO.out (fun h => hB h.2.2.2))
        go_wp2_with fail
        refine (make_no last L c2 (B : Int) _ w2 (by omega)).mono ?_
        rintro e w3 ⟨rfl, rfl⟩
        go_wp2_with fail
        refine bodyPost_ret (results_tmp4 rfl _ _ _) rfl ?_
        rw [HNN.out]
        exact ⟨rfl, HB2.out⟩
    · have hf : (n : Int) < (S : Int) := by omega
      have HNN := hid (HNO.out (by omega))
      go_wp2_with fail
      refine HK.out.mono ?_
      rintro e v1 ⟨rfl, rfl⟩
      go_wp2_with fail
      refine bodyPost_ret (results_tmp4 rfl _ _ _) rfl ?_
      rw [HNN.out]
      exact ⟨rfl, HBQ.out⟩
  · rw [siz_no (by omega)] at HK
    have HNN := hid (HNO.out (by omega))
    clear hL
    go_wp2_with fail
    refine HK.out.mono ?_
    rintro e v1 ⟨rfl, rfl⟩
    go_wp2_with fail
    refine bodyPost_ret (results_tmp4 rfl _ _ _) rfl ?_
    rw [HNN.out]
    exact ⟨rfl, HBQ.out⟩
end Go.Proofs.Yteohjfhflodklaa
