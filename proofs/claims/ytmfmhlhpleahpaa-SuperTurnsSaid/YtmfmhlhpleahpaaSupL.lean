/- The document's example of two slots comes out true (the statements' own 'awake'). No condition. -/
import Derived.Test.YtmfmhlhpleahpaaSupK
namespace Go.Proofs.Ytmfmhlhpleahpaa
open Go.RowKit Pen
open Crc (four nx)
theorem Only.low2 {q p : Nat} {w w' : World} {base : Nat} (h : Only q (some p) w w') (hq : base ≤ q) (hp : base ≤ p) (hb : base ≤ w.heap.size) : Below base w w' :=
  h.below hq (fun k e => by simp at e; omega) hb
def sp0 (n b : Int) : Sp := ⟨n, b, ⟨[], 0, 0⟩, ⟨[], 0, 0⟩⟩
theorem sp0_ok (n b : Int) (h : 0 ≤ n ∧ n ≤ 2147483647) (h' : 0 ≤ b ∧ b ≤ 2147483647) (k : Int) : (sp0 n b).Ok k := ⟨h, h', by simp [sp0], by simp [sp0], by simp [sp0], by simp [sp0]⟩
theorem sp0_may (n b : Int) (h : 0 ≤ n ∧ n ≤ 2147483647) (h' : 0 ≤ b ∧ b ≤ 2147483647) (k : Int) : (sp0 n b).may k = true := (may_iff _ _).2 (sp0_ok n b h h' _)
theorem sp0_parse (n b : Int) (h : 0 ≤ n ∧ n ≤ 2147483647) (h' : 0 ≤ b ∧ b ≤ 2147483647) (k : Int) : parse (sp0 n b).bytes k = some (sp0 n b) := by
  rw [parse_bytes (sp0_ok n b h h' 96) (show (0 : Nat) < 4294967296 by decide) (show (0 : Nat) < 4294967296 by decide), sp0_may n b h h', if_pos rfl]
/-- Write of a slot with no logs. -/
theorem write0 {w : World} {q p : Nat} {d : Dk} (h : DiskAt w q p d) (hdead : d.dead = false) (hf : d.fuse = none) (hops : d.ops ≤ 1000000) (s : Nat) (hs : s < 2) (hn : s * 4 + 4 ≤ d.secs.length) (n b : Int) (h1 : 0 ≤ n ∧ n ≤ 2147483647) (h2 : 0 ≤ b ∧ b ≤ 2147483647) :
    Calls Try.prog 18 #[.pointer (some ⟨q, 0, none⟩), .int .i64 (s : Int), .agg #[.int .i64 n, .int .i64 b, .slice none 0 0, .int .i64 0, .int .u32 0, .slice none 0 0, .int .i64 0, .int .u32 0]] w
      fun e w' => e = .returned (.int .i64 0) ∧ DiskAt w' q p (layFrom s (sp0 n b).bytes 4 d) ∧ Only q (some p) w w' :=
  writeS_ok h hdead hf hops s hs hn n b none 0 0 0 0 none 0 0 0 0 [] [] (IRow.nil _ _) rfl (by decide) (IRow.nil _ _) rfl (by decide) (by decide) (by decide) (sp0 n b) rfl (sp0_ok n b h1 h2 96)
theorem may0 (w : World) (n b : Int) (k : Int) :
    Calls Try.prog 10 #[.agg #[.int .i64 n, .int .i64 b, .slice none 0 0, .int .i64 0, .int .u32 0, .slice none 0 0, .int .i64 0, .int .u32 0], .int .i64 k] w
      fun e w' => e = .returned (.bool ((sp0 n b).may k)) ∧ Below w.heap.size w w' :=
  may_any w n b none 0 0 0 0 none 0 0 0 0 [] [] (IRow.nil _ _) rfl (by decide) (IRow.nil _ _) rfl (by decide) k
theorem new8 (w : World) : Calls Try.prog 17 #[.int .i64 8] w fun e w' => ∃ q, e = .returned (.tuple #[.pointer (some ⟨q, 0, none⟩), .int .i64 0]) ∧ ∃ p, DiskAt w' q p (fresh 8) ∧ Below w.heap.size w w' ∧ w.heap.size ≤ q ∧ w.heap.size ≤ p := new_any w 8 (by decide)
def awk3 : Dk := layFrom 0 (sp0 3 0).bytes 4 (fresh 8)
def awk5 : Dk := layFrom 1 (sp0 5 0).bytes 4 awk3
theorem awk3_rest : awk3.dead = false ∧ awk3.fuse = none ∧ awk3.ops = 4 ∧ awk3.secs.length = 8 := ⟨rfl, rfl, rfl, by rw [awk3, layFrom_len]; exact (fresh_rest 8).1⟩
theorem awk5_rest : awk5.dead = false ∧ awk5.secs.length = 8 := ⟨rfl, by rw [awk5, layFrom_len]; exact awk3_rest.2.2.2⟩
theorem awk_best : best (parse (awk5.slot 0) 0) (parse (awk5.slot 1) 0) = some (sp0 5 0) := by
  have h3 := sp0_ok 3 0 (by decide) (by decide) 96
  have h5 := sp0_ok 5 0 (by decide) (by decide) 96
  have e0 : awk5.slot 0 = (sp0 3 0).bytes := by
    rw [awk5, slot_other 1 0 _ _ (by decide), awk3, slot_same 0 _ _ (by rw [(fresh_rest 8).1]; decide) (bytes_len h3)]
  have e1 : awk5.slot 1 = (sp0 5 0).bytes := by
    rw [awk5, slot_same 1 _ _ (by rw [awk3_rest.2.2.2]; decide) (bytes_len h5)]
  rw [e0, e1, sp0_parse 3 0 (by decide) (by decide), sp0_parse 5 0 (by decide) (by decide)]
  rfl
set_option maxRecDepth 10000 in
set_option maxHeartbeats 4000000 in
theorem awake_any (w : World) : Calls Try.prog 9 #[] w fun e w' => e = .returned (.bool true) ∧ Below w.heap.size w w' := by
  have hnil := neq_nil
  go_enter Try.func9, Try.ntmps9
  go_wp2_with fail
  refine (new8 _).mono ?_
  rintro e w1 ⟨q, rfl, p, hd, hb, hq, hp⟩
  have HD := hid hd
  have HB := hid hb
  have HQ := hid hq
  have HP := hid hp
  clear hd hb hq hp
  go_wp2_with fail
  refine (write0 HD.out rfl rfl (by decide) 0 (by decide) (by rw [(fresh_rest 8).1]; decide) 3 0 (by decide) (by decide)).mono ?_
  rintro e w2 ⟨rfl, hd2, ho2⟩
  have HD2 : Hid (DiskAt w2 q p awk3) := hd2
  have HB2 := hid (HB.out.trans (ho2.low2 HQ.out HP.out HB.out.size))
  clear hd2 ho2 HD HB
  go_wp2_with fail
  refine (write0 HD2.out awk3_rest.1 awk3_rest.2.1 (by rw [awk3_rest.2.2.1]; decide) 1 (by decide) (by rw [awk3_rest.2.2.2]; decide) 5 0 (by decide) (by decide)).mono ?_
  rintro e w3 ⟨rfl, hd3, ho3⟩
  have HD3 : Hid (DiskAt w3 q p awk5) := hd3
  have HB3 := hid (HB2.out.trans (ho3.low2 HQ.out HP.out HB2.out.size))
  clear hd3 ho3 HD2 HB2
  go_wp2_with fail
  refine (bestS_ok HD3.out awk5_rest.1 (by rw [awk5_rest.2]; decide) 0).mono ?_
  rintro e w4 ⟨hbst, hb4⟩
  rw [awk_best] at hbst
  obtain ⟨aj, nj, cj, ac, nc, cc, rfl, h1, h2, h3, h4, h5, h6⟩ := hbst
  have HB4 := hid (HB3.out.trans (hb4.mono HB3.out.size))
  clear h1 h2 h3 h4 h5 h6 hb4 HB3 HD3
  simp only [sp0]
  go_wp2_with fail
  refine (may0 _ 0 0 0).mono ?_
  rintro e w5 ⟨rfl, hb5⟩
  rw [sp0_may 0 0 (by decide) (by decide)]
  have HB5 := hid hb5
  clear hb5
  go_wp2_with fail
  go_ret
  refine ⟨rfl, HB4.out.trans ?_⟩
  have hl : w.heap.size ≤ w4.heap.size := HB4.out.size
  have hb6 : Below w4.heap.size w4 w5 := by
    refine Below.trans ?_ (HB5.out.mono ?_)
    · exact (Below.refl _ _).alloc (Nat.le_refl _) _
    · simp
  exact hb6.mono hl
end Go.Proofs.Ytmfmhlhpleahpaa
