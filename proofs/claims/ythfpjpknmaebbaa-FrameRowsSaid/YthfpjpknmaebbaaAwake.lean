/- The document's example: 'awake' answers true in every world. No condition. -/
import Derived.Test.YthfpjpknmaebbaaFrC
namespace Go.Proofs.Ythfpjpknmaebbaa
open Go.RowKit Pen
open Crc (four nx run)
set_option maxRecDepth 4000
theorem readen_some {w' : World} {last : Nat} {r : List Nat} {b : Nat} {e : Ending} (h : Readen w' last (some (r, b)) e) : ∃ a n cap, e = .returned (.tuple #[.slice a n cap, .int .i64 (b : Int), .int .u32 (nx last r : Nat), .bool true]) ∧ r.length = n ∧ Row w' a r := h
theorem readen_none {w' : World} {last : Nat} {e : Ending} (h : Readen w' last none e) : e = .returned (.tuple #[.slice none 0 0, .int .i64 0, .int .u32 0, .bool false]) := h
set_option maxHeartbeats 2000000 in
theorem awake_any (w : World) : Calls Try.prog 9 #[] w fun e w' => e = .returned (.bool true) ∧ Below w.heap.size w w' := by
  obtain ⟨w1, hw1⟩ : ∃ w1, w1 = w.alloc (.cells #[.int .u8 7] 5) := ⟨_, rfl⟩
  have HB1 : Hid (Below w.heap.size w w1) := by rw [hw1]; exact (Below.refl _ _).alloc (Nat.le_refl _) _
  have HR1 : Hid (Row w1 (some ⟨w.heap.size, 0, none⟩) [7]) := by rw [hw1]; exact row_new w [7] (by simp) 5 (0, 0)
  have HW1 := hid hw1
  clear hw1
  go_enter Try.func9, Try.ntmps9
  go_wp2_with fail
  rw [← HW1.out]
  refine (make_any 5 1 _ [7] 1 1 w1 (by decide) (by decide) rfl (by decide) (by decide) HR1.out).mono ?_
  rintro e w2 ⟨g, cap, rfl, hm2, hb2⟩
  have HM2 := hid hm2
  have HB2 := hid (HB1.out.trans (hb2.mono HB1.out.size))
  clear hm2 hb2 HB1 HR1 HW1
  have HRD : Hid (rd 5 (mk 5 1 [7]) = some ([7], 1)) := rd_mk0 (by decide) (by decide) (by decide)
  generalize hx : nx 5 [7] = x at *
  go_wp2_with fail
  refine (read_any 5 _ (mk 5 1 [7]) 17 cap w2 (by decide) HM2.out.1 HM2.out.row.1 HM2.out.row.2).mono ?_
  rintro e w3 ⟨hrd, hb3⟩
  rw [HRD.out] at hrd
  obtain ⟨a3, n3, c3, rfl, hn3, hr3⟩ := readen_some hrd
  rw [hx]
  obtain rfl : 1 = n3 := hn3
  have hs : (convert 23 9 (.slice a3 1 c3)).run Try.prog w3 = .ok (.string { data := #[7] }) w3 := str_any w3 a3 [7] 1 c3 rfl hr3
  have HB3 := hid (HB2.out.trans (hb3.mono HB2.out.size))
  have HK := hid (size_any 1 w3)
  rw [show siz 1 = 17 from rfl] at HK
  clear hrd hb3 hr3 hx HB2 HM2
  go_wp2_with fail
  refine HK.out.mono ?_
  rintro e w4 ⟨rfl, rfl⟩
  go_wp2_with fail
  go_ret
  exact ⟨rfl, HB3.out⟩
end Go.Proofs.Ythfpjpknmaebbaa
