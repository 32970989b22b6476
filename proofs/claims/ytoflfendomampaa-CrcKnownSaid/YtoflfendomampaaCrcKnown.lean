/- Proved: the law 'CrcKnown' (the sums that are known by hand) answers true in every world. No condition: it has no input. -/
import Derived.Test.YtoflfendomampaaKnown
import Derived.ProofKit
import Derived.OpenShut
import Derived.ShutString
import Derived.ChangeOld
namespace Go.Proofs.Ytoflfendomampaa
open Go.ChangeShapes Go.WideShapes Go.ChangeAt Go.RowKit Crc

set_option maxHeartbeats 1000000 in
theorem crcKnown_walk (w : World) : Calls Try.prog 5 #[] w fun e w' => e = .returned (.bool true) ∧ Below w.heap.size w w' := by
  have kc := fun (w : World) (C : Array Value) (n c : Nat) => Lib.run_convert_bytes_const (P := Try.prog) w 22 5 C n c Try.underlying22 Try.underlying5
  have hmk : ∀ w, (Instr.makeSlice 22 (.int .i64 32) (.int .i64 32)).run Try.prog w = .ok (.slice (some ⟨w.heap.size, 0, none⟩) 32 32) (w.alloc (.cells (row8 (List.replicate 32 0)) 5)) := fun _ => by kernel_rfl
  have k1 : ∀ w, Calls Try.prog 9 #[.slice (some ⟨w.heap.size, 0, none⟩) 1 1] (w.alloc (.cells (row8 [0]) 5)) fun e w' => e = .returned (.int .u32 1383945041) ∧ Below w.heap.size w w' := fun w =>
    (sum_any _ [0] 1 _ (row_new w _ (by decide) 5) (by decide)).mono fun e w' ⟨he, hb⟩ => ⟨by rw [he, known2]; rfl, ((Below.refl _ _).alloc (Nat.le_refl _) _).trans (hb.mono (by simp))⟩
  have k2 : ∀ w, Calls Try.prog 9 #[.slice (some ⟨w.heap.size, 0, none⟩) 32 32] (w.alloc (.cells (row8 (List.replicate 32 0)) 5)) fun e w' => e = .returned (.int .u32 2324772522) ∧ Below w.heap.size w w' := fun w =>
    (sum_any _ (List.replicate 32 0) 32 _ (row_new w _ (by decide) 5) (by decide)).mono fun e w' ⟨he, hb⟩ => ⟨by rw [he, known3]; rfl, ((Below.refl _ _).alloc (Nat.le_refl _) _).trans (hb.mono (by simp))⟩
  have k3 : ∀ w, Calls Try.prog 9 #[.slice (some ⟨w.heap.size, 0, none⟩) 5 5] (w.alloc (.cells (row8 [49, 50, 51, 52, 53]) 5 (5, 6))) fun e w' => e = .returned (.int .u32 416359221) ∧ Below w.heap.size w w' := fun w =>
    (sum_any _ [49, 50, 51, 52, 53] 5 _ (row_new_m w _ (by decide) 5 (5, 6)) (by decide)).mono fun e w' ⟨he, hb⟩ => ⟨by rw [he, known4]; rfl, ((Below.refl _ _).alloc (Nat.le_refl _) _).trans (hb.mono (by simp))⟩
  have k4 : ∀ w, Calls Try.prog 11 #[.int .u32 416359221, .slice (some ⟨w.heap.size, 0, none⟩) 4 4] (w.alloc (.cells (row8 [54, 55, 56, 57]) 5 (4, 5))) fun e w' => e = .returned (.int .u32 3808858755) ∧ Below w.heap.size w w' := fun w =>
    (next_any 416359221 (by decide) _ [54, 55, 56, 57] 4 _ (row_new_m w _ (by decide) 5 (4, 5)) (by decide)).mono fun e w' ⟨he, hb⟩ => ⟨by rw [he, ← known4, known5]; rfl, ((Below.refl _ _).alloc (Nat.le_refl _) _).trans (hb.mono (by simp))⟩
  have k5 : ∀ w, Calls Try.prog 11 #[.int .u32 7, .slice none 0 0] w fun e w' => e = .returned (.int .u32 7) ∧ Below w.heap.size w w' := fun w =>
    (next_any 7 (by decide) none [] 0 w (row_nil w) (by decide)).mono fun e w' ⟨he, hb⟩ => ⟨by rw [he, known6]; rfl, hb⟩
  go_enter Try.func5, Try.ntmps5
  go_wp2_with fail
  refine (awake_any _).mono ?_
  rintro e w0 ⟨rfl, hb0⟩
  go_wp2_with fail
  refine (k1 _).mono ?_
  rintro e w1 ⟨rfl, hb1⟩
  go_wp2_with fail
  refine (k2 _).mono ?_
  rintro e w2 ⟨rfl, hb2⟩
  go_wp2_with fail
  refine (k3 _).mono ?_
  rintro e w3 ⟨rfl, hb3⟩
  go_wp2_with fail
  refine (k4 _).mono ?_
  rintro e w4 ⟨rfl, hb4⟩
  go_wp2_with fail
  refine (k5 _).mono ?_
  rintro e w5 ⟨rfl, hb5⟩
  go_wp2_with fail
  refine (bytes_any 0 (by decide) _).mono ?_
  rintro e w6 ⟨rfl, rfl⟩
  have hs := str4 w5 0 (by decide)
  rw [str_0] at hs
  go_wp2_with fail
  go_ret
  have c1 := hb0.trans (hb1.mono hb0.size)
  have c2 := c1.trans (hb2.mono c1.size)
  have c3 := c2.trans (hb3.mono c2.size)
  have c4 := c3.trans (hb4.mono c3.size)
  have c5 := c4.trans (hb5.mono c4.size)
  exact ⟨rfl, c5.alloc c5.size _⟩

theorem own : ownKnob Try.prog.godebug = none := by kernel_rfl
set_option maxRecDepth 100000 in
theorem crcKnown_lifted (os : Os) (started : os.Started) (H : Type) (enc : TypeId × Value → H) :
    ReturnsInHanded {} Try.checked os 5 .any (Rows.crcKnownSpec.pre6 enc Try.prog Try.f5 Rows.crcKnownRow.domain false) (Rows.crcKnownSpec.post enc Try.prog Try.f5 false true false false) := by
  refine returnsInHanded_of_change (C := Try.checked) own started (by kernel_rfl) Try.func5
    (ChangeSpec.witness6 (enc := enc) (C := Try.checked) false ⟨#[], #[], []⟩ 8 (by kernel_rfl) (by kernel_rfl) (by kernel_rfl) (by kernel_rfl)) ?_
  intro W base args ds gs before hval0 hW _ _
  have hW' := hW
  obtain ⟨p, q, hA0, hV, rfl, hfz, hnd⟩ := hW
  have hA : DataW.TrodAll enc Try.prog W 0 (fun _ => true) true Try.f5.params.toList args.toList ds p := hA0
  rw [Try.params5] at hA
  obtain ⟨rfl, rfl, rfl⟩ := trodAll_none hA
  obtain ⟨rfl, rfl⟩ := trodVars_none hV
  clear hA0 hval0
  refine (crcKnown_walk W).mono fun e W' ⟨he, bel⟩ => ?_
  subst he
  exact ⟨_, rfl, _, _, _, [], _, [], hW', trodAll_mk1 (shut_bool Try.underlying4 _), trodAll_mk0, rfl, bel.frame _, fun h => by cases h⟩

theorem crcKnown_over : Rows.crcKnownRow.holds Try.pinned (OpenSpec.ofChange Rows.crcKnownSpec) :=
  OpenClaim.holds_of_wide 5 Try.f5 rfl rfl rfl rfl rfl rfl rfl ⟨rfl, rfl, rfl, rfl, rfl⟩ rfl rfl rfl rfl rfl (by kernel_rfl) Try.func5 (by kernel_rfl)
    (of_decide_eq_true (by kernel_rfl)) (by unfold Func.isWrapper; first | (rw [if_pos (by decide +kernel)]; kernel_rfl) | (rw [if_neg (by decide +kernel)]; exact ⟨rfl, rfl⟩))
    (fun os started H enc _ => crcKnown_lifted os started H enc)

theorem crcKnown_holds : Rows.CrcKnownSaid := crcKnown_over
#print axioms crcKnown_holds
end Go.Proofs.Ytoflfendomampaa
