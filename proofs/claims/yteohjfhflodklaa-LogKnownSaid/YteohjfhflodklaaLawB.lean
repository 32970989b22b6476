/- The statements' awake: the document's example. No condition. -/
import Derived.Test.YteohjfhflodklaaLogV
import Derived.Lib.SlBytesConst
namespace Go.Proofs.Yteohjfhflodklaa
open Go.ChangeShapes Go.WideShapes Go.ChangeAt Go.RowKit Pen
open Crc (four nx run)
set_option maxRecDepth 4000
theorem fresh_read (n i : Nat) : (fresh n).read i = zeros := by
  unfold Dk.read fresh
  simp only [List.getD_eq_getElem?_getD, List.getElem?_replicate]
  split <;> rfl
/-- A log that is new, on a disk that is new. -/
theorem start_is {w : World} {g q p x k : Nat} (hd : DiskAt w q p (fresh (8 + 8 * k))) (hs : Sp.SpAt w x k Sp.z96) (hl : LogAt w g q [] 0 0 0) : LogIs w g q p x (fresh (8 + 8 * k)) k 0 [] [] := by
  rw [← Sp.upTo_zero] at hs
  refine ⟨⟨hl, hd, hs, rfl, rfl, by simp [fresh], Nat.zero_le _, by simp, by simp [lenOf], by simp⟩, fun i hi => by simp [lay] at hi, by simp, List.nodup_nil, fun i _ _ => fresh_read _ i, by simp [fresh], by simp [segsN, lenOf], rfl⟩
def abc (w : World) : World := w.alloc (.cells #[.int .u8 97, .int .u8 98, .int .u8 99] 5 (3, 4))
theorem conv_abc (w : World) : (convert 40 40 (.slice (some ⟨w.heap.size, 0, none⟩) 3 3)).run Try.prog (w.alloc (.cells #[.int .u8 97, .int .u8 98, .int .u8 99] 5)) = .ok (.slice (some ⟨w.heap.size, 0, none⟩) 3 3) (abc w) := Lib.run_convert_bytes_const w 40 5 _ 3 3 Try.underlying40 Try.underlying5
theorem abc_below (w : World) : Below w.heap.size w (abc w) := (Below.refl _ w).alloc (Nat.le_refl _) _
theorem abc_row (w : World) : Row (abc w) (some ⟨w.heap.size, 0, none⟩) [97, 98, 99] := row_new w [97, 98, 99] (by decide) 5 (3, 4)
theorem field36 (w : World) (a : Option Addr) (n c : Nat) (x y : Int) : (Instr.field 36 (.agg #[.slice a n c, .int .i64 x, .int .u32 y]) 1).run Try.prog w = .ok (.int .i64 x) w := by kernel_rfl
theorem field36s (w : World) (a : Option Addr) (n c : Nat) (x y : Int) : (Instr.field 36 (.agg #[.slice a n c, .int .i64 x, .int .u32 y]) 0).run Try.prog w = .ok (.slice a n c) w := by kernel_rfl
theorem field36l (w : World) (a : Option Addr) (n c : Nat) (x y : Int) : (Instr.field 36 (.agg #[.slice a n c, .int .i64 x, .int .u32 y]) 2).run Try.prog w = .ok (.int .u32 y) w := by kernel_rfl
theorem grid_one {W : World} {b n c : Nat} {r : List Nat} (hr : Row W (some ⟨b, 0, none⟩) r) (hn : r.length = n) : Grid (W.alloc (.cells #[.slice (some ⟨b, 0, none⟩) n c] 40)) (some ⟨W.heap.size, 0, none⟩) [r] := by
  refine .inr ⟨W.heap.size, 0, rfl, by simp, fun i hi => ?_⟩
  have h0 : i = 0 := by simp at hi; exact hi
  subst h0
  refine ⟨some ⟨b, 0, none⟩, c, ?_, hr.below ((Below.refl _ W).alloc (Nat.le_refl _) _)⟩
  rw [cell_of_row _ _ 0 _ 40 (0, 0) (heap_alloc_new W _)]
  simp [hn]
set_option maxRecDepth 10000 in
set_option maxHeartbeats 4000000 in
theorem awake_any (w : World) : Calls Try.prog 9 #[] w fun e w' => e = .returned (.bool true) ∧ Below w.heap.size w w' := by
  have HN := hid (new_any w 24 (by decide))
  go_enter Try.func9, Try.ntmps9
  go_wp2_with fail
  refine HN.out.mono ?_
  rintro e w1 ⟨q, rfl, p, hd1, hb1, hq, hp⟩
  have HD1 := hid hd1
  have HB1 := hid hb1
  clear HN hd1 hb1
  go_wp2_with fail
  refine (Sp.new_any w1 2 2 (by decide)).mono ?_
  rintro e w2 ⟨x, rfl, hs2, hb2, hx⟩
  have HD2 := hid (HD1.out.below hb2)
  have HB2 := hid (below_tr HB1.out hb2 HB1.out.size)
  have HS2 := hid hs2
  have hx2 : w.heap.size ≤ x := Nat.le_trans HB1.out.size hx
  clear HD1 HB1 hs2 hb2
  go_wp2_with fail
  refine (lnew_any w2 q).mono ?_
  rintro e w3 ⟨g, rfl, hl3, hb3, hg⟩
  have hbA := abc_below w3
  have HIS := hid ((start_is (k := 2) (HD2.out.below hb3) (HS2.out.below hb3) hl3).below hbA)
  have HB3 := hid (below_tr (below_tr HB2.out hb3 HB2.out.size) hbA (below_tr HB2.out hb3 HB2.out.size).size)
  have HRW := hid (abc_row w3)
  have hg2 : w.heap.size ≤ g := Nat.le_trans HB2.out.size hg
  clear HD2 HS2 HB2 hl3 hb3 hbA
  have HPU := hid (put_any HIS.out 0 (some ⟨w3.heap.size, 0, none⟩) [97, 98, 99] 3 3 rfl HRW.out)
  rw [show (((0 : Nat) : Int)) = 0 from rfl] at HPU
  have hcv := conv_abc w3
  generalize abc w3 = W3 at *
  go_wp2_with fail
  refine HPU.out.mono ?_
  rintro e w4 ⟨z, rfl, hput⟩
  rcases hput with ⟨rfl, _, _, hb4, zt, his4⟩ | ⟨_, hno, _⟩ | ⟨_, _, hno, _⟩
  · have hlen4 := his4.sys.log.len
    have hwh := his4.whole
    have htg := his4.tight
    have hl1 : lenOf ([] ++ [(0, [97, 98, 99])]) = 1 := by decide
    have hm1 : 0 + zt = 1 := by rw [hwh, htg, hl1]; decide
    have HIS4 := hid his4
    have HWH := hid (where_any his4.sys.log)
    have HM1 := hid hm1
    have HB4 : Hid (Below w.heap.size w w4) := below_tr' HB3.out (hb4.below (base := w.heap.size) (fun k e => by rcases e with rfl | rfl | rfl | rfl <;> omega) HB3.out.size)
    have HLI : Hid (∀ (W : World) (a : Option Addr) (kk c : Nat), LogIs W g q p x (lays (fresh (8 + 8 * 2)) ([] ++ List.range' 0 zt) (lenOf []) (secsOf (lenOf []) 0 (mk (lastOf 0 []) 0 [97, 98, 99]))) 2 (0 + zt) ([] ++ List.range' 0 zt) ([] ++ [(0, [97, 98, 99])]) → ([] ++ List.range' 0 zt).length = kk → IRow W a (iv ([] ++ List.range' 0 zt)) → (a = none → c = 0) → _) := fun W a kk c h1 h2 h3 h4 => load_is h1 a kk c h2 h3 h4
    clear hb4 his4 HPU HIS HRW HB3 hcv hwh htg hm1 hlen4
    generalize hRR : [] ++ [(0, [97, 98, 99])] = RR at *
    generalize hN1 : lenOf RR = n1 at *
    have HN1 : Hid (n1 = 1) := hl1
    have HRR := hid hRR
    clear hl1 hN1 hRR
    generalize [] ++ List.range' 0 zt = sg at *
    generalize lays (fresh (8 + 8 * 2)) sg (lenOf []) (secsOf (lenOf []) 0 (mk (lastOf 0 []) 0 [97, 98, 99])) = d4 at *
    go_wp2_with fail
    refine HWH.out.mono ?_
    rintro e w5 ⟨a5, c5, rfl, hs5, hc5, hm5, hz5, hb5⟩
    have HB5 := hid (below_tr HB4.out hb5 HB4.out.size)
    have HIS5 := hid (HIS4.out.below hb5)
    have HLD := hid (HLI.out w5 a5 sg.length c5 HIS5.out rfl hs5.irow hz5)
    clear hb5 hs5 HB4 HIS4 HWH
    generalize lastOf 0 RR = la at *
    generalize sg.length = ln at *
    go_wp2_with fail
    refine HLD.out.mono ?_
    rintro e w6 ⟨g6, v6, rfl, hg6, hl6, ⟨base, hbs, hre⟩, hb6⟩
    obtain ⟨a6, c6, rfl⟩ := hre.slice
    have hgr := hre.grid.2
    have hmap : RR.map (·.2) = [[97, 98, 99]] := by rw [← HRR.out]; rfl
    rw [hmap] at hgr ⊢
    have HB6 := hid (below_tr HB5.out hb6 HB5.out.size)
    have HIS6 := hid (HIS5.out.below hb6)
    have hcv := conv_abc w6
    have hbA := abc_below w6
    have hrA := abc_row w6
    have hgA := hgr.below hbA
    have HB7 := hid (below_tr HB6.out hbA HB6.out.size)
    have HIS7 := hid (HIS6.out.below hbA)
    generalize abc w6 = W6 at *
    have hbL : Below W6.heap.size W6 (W6.alloc (.cells #[.slice (some ⟨w6.heap.size, 0, none⟩) 3 3] 40)) := (Below.refl _ _).alloc (Nat.le_refl _) _
    have HSM := hid (same_any a6 (some ⟨W6.heap.size, 0, none⟩) [[97, 98, 99]] [[97, 98, 99]] 1 c6 1 1 rfl rfl (hgA.below hbL) (grid_one hrA rfl) (by decide))
    have HB8 := hid (below_tr HB7.out hbL HB7.out.size)
    have HIS8 := hid (HIS7.out.below hbL)
    clear hre hgr hmap hb6 hbA hrA hgA hbL HB5 HB6 HB7 HIS5 HIS6 HIS7 HLD HLI hl6
    go_wp2_with fail
    refine HSM.out.mono ?_
    rintro e w8 ⟨rfl, j8, rfl⟩
    have hb8 : Below (W6.alloc (.cells #[.slice (some ⟨w6.heap.size, 0, none⟩) 3 3] 40)).heap.size (W6.alloc (.cells #[.slice (some ⟨w6.heap.size, 0, none⟩) 3 3] 40)) ((W6.alloc (.cells #[.slice (some ⟨w6.heap.size, 0, none⟩) 3 3] 40)).drewN j8) := ⟨rfl, rfl, rfl, Nat.le_refl _, fun _ _ => rfl⟩
    have HB9 := hid (below_tr HB8.out hb8 HB8.out.size)
    have HIS9 := hid (HIS8.out.below hb8)
    generalize (W6.alloc (.cells #[.slice (some ⟨w6.heap.size, 0, none⟩) 3 3] 40)).drewN j8 = w9 at *
    clear hb8 HB8 HIS8 HSM hcv
    try rw [decide_eq_true (rfl : [[97, 98, 99]] = [[97, 98, 99]])]
    try rw [decide_true]
    have hn1 := HN1.out
    subst hn1
    have hlr : lenOf RR = 1 := by rw [← HRR.out]; decide
    have HW9 := hid (where_any HIS9.out.sys.log)
    rw [hlr] at HW9
    go_wp2_with fail
    refine HW9.out.mono ?_
    rintro e w10 ⟨a10, c10, rfl, _, _, _, _, hb10⟩
    have HB10 := hid (below_tr HB9.out hb10 HB9.out.size)
    have hsp := (HIS9.out.below hb10).sys.space
    have HFR := hid (Sp.free_any hsp)
    rw [nfree_upTo _ _ (by decide), HM1.out] at HFR
    clear hb10 hsp HB9 HIS9 HW9
    have hfd := field36 w10 a10 sg.length c10 1 (lastOf 0 RR : Nat)
    go_wp2_with fail
    refine HFR.out.mono ?_
    rintro e w11 ⟨rfl, j11, rfl⟩
    go_wp2_with fail
    go_ret
    exact ⟨rfl, ⟨HB10.out.os, HB10.out.tape, HB10.out.output, HB10.out.size, HB10.out.block⟩⟩
  · exact absurd (show MayBe 0 [97, 98, 99] by unfold MayBe; decide) hno
  · exact absurd (show lenOf [] + secsN [97, 98, 99] ≤ 8 * 2 by decide) hno
end Go.Proofs.Yteohjfhflodklaa
