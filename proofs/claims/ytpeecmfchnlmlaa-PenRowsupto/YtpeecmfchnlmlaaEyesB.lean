/- What the program's Eye answers for floats and texts, and what New makes; whatever lies before it. No condition. -/
import Derived.Test.YtpeecmfchnlmlaaEyes
import Derived.Lib.ConvBytes
import Derived.Laws.Externs
namespace Go.Proofs.Ytpeecmfchnlmlaa
open Go.RowKit Pen
theorem frombits_any (w : World) (n : Nat) : (callFunc 34 #[.int .u64 (n : Int)]).run Try.prog w = .ok (.value (.float .f64 n)) w := by
  rw [run_callFunc_extern (fn := Try.f34) (e := Extern.MathFloatBits.float64frombits) Try.func34 (by kernel_rfl) (by kernel_rfl) (by kernel_rfl) (by kernel_rfl)]
  rfl
theorem bits_any (w : World) (n : Nat) : (callFunc 23 #[.float .f64 n]).run Try.prog w = .ok (.value (.int .u64 (n : Int))) w := by
  rw [run_callFunc_extern (fn := Try.f23) (e := Extern.MathFloatBits.float64bits) Try.func23 (by kernel_rfl) (by kernel_rfl) (by kernel_rfl) (by kernel_rfl)]
  rfl
theorem text_any {w : World} {q : Nat} {l : List Nat} {bad : Bool} (h : EyeAt w q l bad) :
    Calls Try.prog 20 #[.pointer (some ⟨q, 0, none⟩)] w fun e w' => e = .returned (.string (strOf (eText l).1)) ∧ EyeAt w' q (eText l).2.1 (bad || (eText l).2.2) ∧ Only q none w w' := by
  have kn := num_any h
  have hle := eNum_le 9 0 0 l
  go_enter Try.func20, Try.ntmps20
  go_wp2_with fail
  refine kn.mono ?_
  rintro e w1 ⟨rfl, he, ho⟩
  go_wp2_with fail
  refine (take_any _ hle he).mono ?_
  rintro e w2 ⟨rfl, he2, ho2⟩
  go_wp2_with fail
  go_ret
  refine ⟨rfl, ?_, only_trans ho ho2⟩
  rw [eText, ← Bool.or_assoc]
  exact he2
theorem new_any {w : World} (a : Option Addr) (l : List Nat) (n cap : Nat) (hn : l.length = n) (hr : Row w a l) :
    Calls Try.prog 17 #[.slice a n cap] w fun e w' => e = .returned (.pointer (some ⟨w.heap.size, 0, none⟩)) ∧ w' = w.alloc (.cells #[.string (strOf l), .bool false] 60) := by
  have hs := fun w (hr : Row w a l) => str_any w a l n cap hn hr
  have k := hs w hr
  clear hs hr
  go_enter Try.func17, Try.ntmps17
  go_wp2_with fail
  go_ret
  exact ⟨rfl, rfl⟩
theorem EyeAt.new (w : World) (l : List Nat) (h : ∀ x ∈ l, x < 256) : EyeAt (w.alloc (.cells #[.string (strOf l), .bool false] 60)) w.heap.size l false :=
  ⟨heap_alloc_new w _, by simp, h⟩
theorem flt_or (t : List Nat) (i : Nat) (ht : ∀ x ∈ t, x < 256) (hi : i < t.length) (h8 : t.length ≤ 8) : bits .or .u64 ((le (t.take i) : Nat) : Int) (IntKind.u64.wrap (((t.getD i 0 : Nat) : Int) * 2 ^ (8 * i))) = ((le (t.take (i + 1)) : Nat) : Int) := by
  have h1 := le_lt (t.take (i + 1)) fun x hx => ht x (List.mem_of_mem_take hx)
  rw [List.length_take, Nat.min_eq_left (by omega)] at h1
  have h2 : (256 : Nat) ^ (i + 1) ≤ 256 ^ 8 := Nat.pow_le_pow_right (by decide) (by omega)
  have e8 : (256 : Nat) ^ 8 = 18446744073709551616 := by decide
  have e3 := le_take t i hi
  have e4 : (256 : Nat) ^ i = 2 ^ (8 * i) := by rw [Nat.pow_mul]
  rw [e4] at e3
  have e : (((t.getD i 0 : Nat) : Int) * 2 ^ (8 * i)) = ((t.getD i 0 * 2 ^ (8 * i) : Nat) : Int) := by push_cast; rfl
  rw [e, IntKind.wrap_u64, ← le_or t i ht hi]
  have e2 : ((t.getD i 0 * 2 ^ (8 * i) : Nat) : Int) % 18446744073709551616 = ((t.getD i 0 * 2 ^ (8 * i) : Nat) : Int) := by omega
  rw [e2]
  exact u64_or_nat _ _ (by omega) (by omega)
theorem bytes_below (w : World) (s : ByteArray) : Below w.heap.size w (Lib.bytesWorld w 5 s) := by
  refine ⟨?_, ?_, ?_, ?_, fun k hk => Lib.bytesWorld_at_old w 5 s k hk⟩
  · simp [Lib.bytesWorld, World.freeze, World.alloc, World.drew, -World.alloc_eq, -World.drew_eq]
  · simp [Lib.bytesWorld, World.freeze, World.alloc, World.drew, -World.alloc_eq, -World.drew_eq]
  · simp [Lib.bytesWorld, World.freeze, World.alloc, World.drew, -World.alloc_eq, -World.drew_eq]
  · rw [Lib.bytesWorld_size]; omega
theorem bytes_cell (w : World) (t : List Nat) (ht : ∀ x ∈ t, x < 256) (i : Nat) (hi : i < t.length) : (Lib.bytesWorld w 5 (strOf t)).cell? ⟨w.heap.size, i, none⟩ = some (.int .u8 (t.getD i 0 : Nat)) := by
  rw [Lib.bytesWorld_cell w 5 (strOf t) i (by rw [strOf_size]; exact hi)]
  have h1 := ht _ (List.getElem_mem hi)
  simp [strOf, List.getD, hi, Nat.mod_eq_of_lt h1]
set_option maxRecDepth 20000 in
set_option maxHeartbeats 1000000 in
theorem float_any {w : World} {q : Nat} {l : List Nat} {bad : Bool} (h : EyeAt w q l bad) :
    Calls Try.prog 19 #[.pointer (some ⟨q, 0, none⟩)] w fun e w' => e = .returned (.float .f64 (eFlt l).1) ∧ EyeAt w' q (eFlt l).2.1 (bad || (eFlt l).2.2) ∧ Only q none w w' := by
  have kt := take_any 8 (by decide) h
  obtain ⟨t, htt⟩ : ∃ t, (eTake 8 l).1 = t := ⟨_, rfl⟩
  have ht8 : t.length ≤ 8 := by rw [← htt]; unfold eTake; split <;> simp; omega
  have htl : ∀ x ∈ t, x < 256 := by
    rw [← htt]; unfold eTake; split
    · simp
    · exact fun x hx => h.2.2 x (List.mem_of_mem_take hx)
  rw [htt] at kt
  have HF : Hid ((eFlt l) = (le t, (eTake 8 l).2.1, (eTake 8 l).2.2)) := by show _ = _; rw [eFlt, htt]
  clear h
  go_enter Try.func19, Try.ntmps19
  go_wp2_with fail
  refine kt.mono ?_
  rintro e w1 ⟨rfl, he, ho⟩
  have kc := Lib.run_convert_string_bytes (P := Try.prog) w1 9 25 5 (strOf t) Try.underlying9 Try.underlying25 Try.underlying5
  rw [strOf_size] at kc
  have hcell := bytes_cell w1 t htl
  have hbel := bytes_below w1 (strOf t)
  have heX : EyeAt (Lib.bytesWorld w1 5 (strOf t)) q (eTake 8 l).2.1 (bad || (eTake 8 l).2.2) := he.below hbel
  have hoX : Only q none w (Lib.bytesWorld w1 5 (strOf t)) := only_trans ho (Only.of_below hbel)
  generalize Lib.bytesWorld w1 5 (strOf t) = W at kc hcell heX hoX
  generalize grownCap w1 t.length 0 5 = cap at kc
  go_wp2_with fail
  generalize w1.heap.size = g at hcell
  clear kc kt hbel he ho
  go_loopg [3, 10] t.length (fun k u v wr => ∃ i : Nat, i + k = t.length ∧ u = .int .u64 ((le (t.take i) : Nat) : Int) ∧ v = .int .i64 (i : Int) ∧ wr = W)
  case atStart => exact ⟨0, by omega, rfl, rfl, rfl⟩
  case round =>
    obtain ⟨i, hi, rfl, rfl, rfl⟩ := hrel
    have HI : Hid (i + gk = t.length) := hi
    have HX : Hid (EyeAt wr q (eTake 8 l).2.1 (bad || (eTake 8 l).2.2)) := heX
    have HO : Hid (Only q none w wr) := hoX
    clear hi heX hoX
    by_cases hlt : i < t.length
    · have i1 : (i : Int) < (t.length : Int) := by omega
      have hor := flt_or t i htl hlt ht8
      have hc := hcell i hlt
      have hx := getD_lt htl i
      obtain ⟨x, hxx⟩ : ∃ x, t.getD i 0 = x := ⟨_, rfl⟩
      rw [hxx] at hor hc hx
      obtain ⟨y, hy⟩ : ∃ y, le (t.take i) = y := ⟨_, rfl⟩
      obtain ⟨z, hz⟩ : ∃ z, le (t.take (i + 1)) = z := ⟨_, rfl⟩
      rw [hy, hz] at hor
      rw [hy]
      have HZ : Hid (le (t.take (i + 1)) = z) := hz
      clear hcell hxx hy hz
      go_wp2_with fail
      go_roundg (gk - 1)
      case measure => have := HI.out; omega
      case rel =>
        have := HI.out
        exact ⟨i + 1, by omega, by rw [HZ.out], by go_num, rfl⟩
    · have i1 : ¬ (i : Int) < (t.length : Int) := by omega
      have e1 : t.take i = t := List.take_of_length_le (by omega)
      rw [e1]
      have kf := fun w => frombits_any w (le t)
      go_wp2_with fail
      go_ret
      rw [HF.out]
      exact ⟨rfl, HX.out, HO.out⟩
end Go.Proofs.Ytpeecmfchnlmlaa
