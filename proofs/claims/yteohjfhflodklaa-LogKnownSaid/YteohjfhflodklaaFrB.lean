/- What the program's Read answers. Condition: what comes in is at most nine hundred million bytes. -/
import Derived.Test.YteohjfhflodklaaFrA
import Derived.BigQuiet
import Derived.Deep.QuietTactic
namespace Go.Proofs.Yteohjfhflodklaa
open Go.RowKit Pen
open Crc (four nx run)
set_option maxRecDepth 4000
theorem results_tmp4 {fn : Func} {t u v x : Tmp} (h : fn.results = #[.tmp t, .tmp u, .tmp v, .tmp x]) (tmps : Array Value) (P : Program) (w : World) :
    (results fn tmps).run P w = .ok (.tuple #[tmps.getD t undef, tmps.getD u undef, tmps.getD v undef, tmps.getD x undef]) w := by
  simp [results, h]
/-- What a reading of a frame answers. -/
def Readen (w' : World) (last : Nat) (o : Option (List Nat × Nat)) (e : Ending) : Prop :=
  match o with
  | none => e = .returned (.tuple #[.slice none 0 0, .int .i64 0, .int .u32 0, .bool false])
  | some (r, b) => ∃ a n cap, e = .returned (.tuple #[.slice a n cap, .int .i64 (b : Int), .int .u32 (nx last r : Nat), .bool true]) ∧ r.length = n ∧ Row w' a r
theorem rd_no {last : Nat} {X : List Nat} (h : ¬ (1 ≤ le (X.take 4) ∧ le (X.take 4) ≤ 16384 ∧ le (X.take 4) + 16 ≤ X.length ∧ le ((X.drop 4).take 4) < 2147483648)) : rd last X = none := by
  unfold rd
  rw [if_neg]
  rintro ⟨a, b, c, d, _⟩
  exact h ⟨a, b, c, d⟩
theorem rd_yes {last : Nat} {X r : List Nat} {L B : Nat} (hL : le (X.take 4) = L) (hB : le ((X.drop 4).take 4) = B) (hr : (X.drop 12).take L = r) (h : 1 ≤ L ∧ L ≤ 16384 ∧ L + 16 ≤ X.length ∧ B < 2147483648) : rd last X = if mk last B r = X.take (L + 16) then some (r, B) else none := by
  unfold rd
  rw [hL, hB, hr]
  by_cases e : mk last B r = X.take (L + 16)
  · rw [if_pos e, if_pos ⟨h.1, h.2.1, h.2.2.1, h.2.2.2, e⟩]
  · rw [if_neg e, if_neg (fun h' => e h'.2.2.2.2)]
/-- A slice whose first four bytes are a number. -/
def NumAt (w : World) (s : Value) (m : Nat) : Prop := ∃ a X n cap, s = .slice a n cap ∧ X.length = n ∧ n ≤ cap ∧ 4 ≤ n ∧ Row w a X ∧ le (X.take 4) = m
theorem numq {w : World} {s : Value} {m : Nat} (h : NumAt w s m) (k : Nat) : Calls Try.prog 64 #[s] (w.drewN k) fun e w' => e = .returned (.int .i64 (m : Int)) ∧ ∃ j, w' = w.drewN j := by
  obtain ⟨a, X, n, cap, rfl, h1, h2, h3, h4, rfl⟩ := h
  exact Calls.quiet_of_same (number_any a X n cap h1 h2 h3 _ ⟨h4.1, h4.2⟩)
set_option maxRecDepth 10000 in
set_option maxHeartbeats 4000000 in
theorem read_any (last : Nat) (a : Option Addr) (X : List Nat) (n cap : Nat) (w : World) (hlast : last < 4294967296) (hn : X.length = n) (hcap : n ≤ cap) (hr : Row w a X) :
    Calls Try.prog 57 #[.int .u32 (last : Int), .slice a n cap] w fun e w' => Readen w' last (rd last X) e ∧ Below w.heap.size w w' := by
  by_cases h12 : n < 12
  · have HRD : Hid (rd last X = none) := rd_no (by omega)
    have hi : (n : Int) < 12 := by omega
    clear hr hn hlast
    go_enter Try.func57, Try.ntmps57
    go_wp2_with fail
    refine bodyPost_ret (results_tmp4 rfl _ _ _) rfl ?_
    rw [HRD.out]
    exact ⟨rfl, Below.refl _ _⟩
  have hi : ¬ (n : Int) < 12 := by omega
  have k1 : NumAt w (.slice a n cap) (le (X.take 4)) := ⟨a, X, n, cap, rfl, hn, hcap, by omega, hr, rfl⟩
  have hr4 := row_drop hr 4 cap (by omega)
  have k2 : NumAt w (.slice (fromA a 4 cap) (n - 4) (cap - 4)) (le ((X.drop 4).take 4)) := ⟨_, X.drop 4, n - 4, cap - 4, rfl, by rw [List.length_drop]; omega, by omega, by omega, hr4, rfl⟩
  have hsl : ∀ w, (Instr.slice 40 (.slice a n cap) (some (.int .i64 4)) none none).run Try.prog w = .ok (.slice (fromA a 4 cap) (n - 4) (cap - 4)) w := fun w => slice_from w a n cap 4 (by omega)
  have hBlt : le ((X.drop 4).take 4) < 4294967296 := by
    have h := le_lt ((X.drop 4).take 4) (fun x hx => hr.1 x (List.mem_of_mem_drop (List.mem_of_mem_take hx)))
    rw [List.length_take, List.length_drop, Nat.min_eq_left (by omega)] at h
    have e : (256 : Nat) ^ 4 = 4294967296 := by decide
    omega
  have HNO : Hid (¬ (1 ≤ le (X.take 4) ∧ le (X.take 4) ≤ 16384 ∧ le (X.take 4) + 16 ≤ n ∧ le ((X.drop 4).take 4) < 2147483648) → rd last X = none) := fun h => rd_no (by rw [hn]; exact h)
  have HYE : Hid (1 ≤ le (X.take 4) ∧ le (X.take 4) ≤ 16384 ∧ le (X.take 4) + 16 ≤ n ∧ le ((X.drop 4).take 4) < 2147483648 → rd last X = if mk last (le ((X.drop 4).take 4)) ((X.drop 12).take (le (X.take 4))) = X.take (le (X.take 4) + 16) then some ((X.drop 12).take (le (X.take 4)), le ((X.drop 4).take 4)) else none) := fun h => rd_yes rfl rfl rfl (by rw [hn]; exact h)
  have HR := hid hr
  have HLN := hid hn
  have HLA := hid hlast
  generalize le (X.take 4) = L at *
  generalize le ((X.drop 4).take 4) = B at *
  generalize fromA a 4 cap = a4 at *
  generalize rd last X = o at *
  clear hr hr4 hn hlast
  go_enter Try.func57, Try.ntmps57
  go_wp2_with fail
  go_quiet (exact numq (by assumption) _)
  have hbq : Below w.heap.size w (w.drewN nq) := ⟨rfl, rfl, rfl, Nat.le_refl _, fun _ _ => rfl⟩
  have HBQ := hid hbq
  clear k1 k2 hsl hbq
  generalize w.drewN nq = v at *
  have HK := hid (size_any (L : Int) v)
  by_cases hL : 1 ≤ L ∧ L ≤ 16384
  · rw [siz_yes (by omega), show (L : Int) + 16 = ((L + 16 : Nat) : Int) by omega] at HK
    obtain ⟨S, hS⟩ : ∃ S, L + 16 = S := ⟨_, rfl⟩
    rw [hS] at HK HNO HYE
    have hS0 : ((S : Int) == 0) = false := by simp; omega
    have HSS := hid hS
    by_cases hfit : S ≤ n
    · have hf : ¬ (n : Int) < (S : Int) := by omega
      have hsm : ∀ w, (Instr.slice 40 (.slice a n cap) (some (.int .i64 12)) (some (.int .i64 (12 + (L : Int)))) none).run Try.prog w = .ok (.slice (fromA a 12 cap) L (cap - 12)) w := fun w => by
        have h := slice_mid w a n cap 12 (12 + L) (by omega) (by omega)
        rw [show 12 + L - 12 = L by omega] at h
        exact h
      have hst : ∀ w, (Instr.slice 40 (.slice a n cap) none (some (.int .i64 (S : Int))) none).run Try.prog w = .ok (.slice a S cap) w := fun w => slice_to w a n cap S (by omega)
      have hr12 := row_take (row_drop (HR.out.below HBQ.out) 12 cap (by have := HLN.out; omega)) L
      have hl12 : ((X.drop 12).take L).length = L := by rw [List.length_take, List.length_drop]; have := HLN.out; omega
      have hne : (X.drop 12).take L ≠ [] := fun e => by rw [e] at hl12; simp at hl12; omega
      obtain ⟨b12, o12, ha12, _, _⟩ : ∃ b off, fromA a 12 cap = some ⟨b, off, none⟩ ∧ b < v.heap.size ∧ ∀ i, i < ((X.drop 12).take L).length → v.cell? ⟨b, off + i, none⟩ = some (.int .u8 (((X.drop 12).take L).getD i 0 : Nat)) := by
        rcases hr12.2 with h | h
        · exact absurd h hne
        · exact h
      rw [ha12] at hsm hr12
      have HCL := hid (clone_any ⟨b12, o12, none⟩ _ L (cap - 12) hl12 hr12 hne (by omega))
      have HRT := hid (row_take HR.out S)
      have HRTL : Hid ((X.take S).length = S) := by show _ = _; rw [List.length_take]; have := HLN.out; omega
      have HL12 := hid hl12
      have HR256 : Hid (∀ x ∈ (X.drop 12).take L, x < 256) := hr12.1
      generalize (X.drop 12).take L = r at *
      generalize X.take S = T at *
      clear hr12 hl12 hne ha12
      go_wp2_with fail
      refine HK.out.mono ?_
      rintro e v1 ⟨rfl, rfl⟩
      clear HK
      go_wp2_with fail
      refine HCL.out.mono ?_
      rintro e w2 ⟨g, c2, rfl, hr2, hb2, _, _⟩
      have HR2 := hid hr2
      have HB2 := hid (HBQ.out.trans (hb2.mono HBQ.out.size))
      clear HCL hr2 hb2
      by_cases hB : B < 2147483648
      · have HYY := hid (HYE.out ⟨hL.1, hL.2, hfit, hB⟩)
        go_wp2_with fail
        refine (make_any last B _ r L c2 w2 HLA.out hB HL12.out hL.1 hL.2 HR2.out).mono ?_
        rintro e w3 ⟨g3, c3, rfl, hm3, hb3⟩
        rw [HSS.out] at hm3 ⊢
        have HE := hid (equal_any (some ⟨g3, 0, none⟩) a (mk last B r) T S S c3 cap hm3.1 HRTL.out hm3.row.2 (HRT.out.below (HB2.out.trans (hb3.mono HB2.out.size))))
        have HB3 := hid (HB2.out.trans (hb3.mono HB2.out.size))
        have HR3 := hid (HR2.out.below hb3)
        clear hm3 hb3 HB2 HR2
        by_cases hE : mk last B r = T
        · rw [decide_eq_true hE] at HE
          rw [if_pos hE] at HYY
          clear hE
          go_wp2_with fail
          refine HE.out.mono ?_
          rintro e w4 ⟨rfl, rfl⟩
          go_wp2_with fail
          refine bodyPost_ret (results_tmp4 rfl _ _ _) rfl ?_
          rw [HYY.out]
          exact ⟨⟨_, _, _, rfl, HL12.out, HR3.out⟩, HB3.out⟩
        · rw [decide_eq_false hE] at HE
          rw [if_neg hE] at HYY
          clear hE
          go_wp2_with fail
          refine HE.out.mono ?_
          rintro e w4 ⟨rfl, rfl⟩
          go_wp2_with fail
          refine bodyPost_ret (results_tmp4 rfl _ _ _) rfl ?_
          rw [HYY.out]
          exact ⟨rfl, HB3.out⟩
      · have HNN := hid (HNO.out (fun h => hB h.2.2.2))
        go_wp2_with fail
        refine (make_no last L c2 (B : Int) _ w2 (by omega)).mono ?_
        rintro e w3 ⟨rfl, rfl⟩
        go_wp2_with fail
        refine bodyPost_ret (results_tmp4 rfl _ _ _) rfl ?_
        rw [HNN.out]
        exact ⟨rfl, HB2.out⟩
    · have hf : (n : Int) < (S : Int) := by omega
      have HNN := hid (HNO.out (by omega))
      go_wp2_with fail
      refine HK.out.mono ?_
      rintro e v1 ⟨rfl, rfl⟩
      go_wp2_with fail
      refine bodyPost_ret (results_tmp4 rfl _ _ _) rfl ?_
      rw [HNN.out]
      exact ⟨rfl, HBQ.out⟩
  · rw [siz_no (by omega)] at HK
    have HNN := hid (HNO.out (by omega))
    clear hL
    go_wp2_with fail
    refine HK.out.mono ?_
    rintro e v1 ⟨rfl, rfl⟩
    go_wp2_with fail
    refine bodyPost_ret (results_tmp4 rfl _ _ _) rfl ?_
    rw [HNN.out]
    exact ⟨rfl, HBQ.out⟩
end Go.Proofs.Yteohjfhflodklaa
