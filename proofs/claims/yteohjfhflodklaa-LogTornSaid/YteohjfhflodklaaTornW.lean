/- LogTorn: a record that is appended while power goes is there whole, or not at all; those that were flushed are there always. No condition. -/
import Derived.Test.YteohjfhflodklaaLawT
namespace Go.Proofs.Yteohjfhflodklaa
open Go.ChangeShapes Go.WideShapes Go.ChangeAt Go.RowKit Pen
open Crc (four nx run)
set_option maxRecDepth 4000
theorem box36 (w : World) (a : Option Addr) (k c : Nat) (n last : Int) : (Instr.storeAt 36 (.pointer (some ⟨w.heap.size, 0, none⟩)) (.agg #[.slice a k c, .int .i64 n, .int .u32 last])).run Try.prog (w.alloc (.cells #[.slice none 0 0, .int .i64 0, .int .u32 0] 36)) = .ok () (w.alloc (.cells #[.slice a k c, .int .i64 n, .int .u32 last] 36)) :=
  run_storeAt_new w 36 #[.slice none 0 0, .int .i64 0, .int .u32 0] #[.slice a k c, .int .i64 n, .int .u32 last] (by exact size36) rfl (by simp [Value.oneCell'])
theorem Recs.but2 {R S : Nat → Prop} {base : Nat} {w w' : World} {v : Value} {rs : List (List Nat)} (h : Recs R base w v rs) (hb : But S w w') (h1 : ∀ k, S k → (∃ t, Tag w k t ∧ t ≠ 40) ∧ ¬ R k) : Recs R base w' v rs := by
  obtain ⟨xs, ho, hx⟩ := h
  refine ⟨xs, ⟨ho.1, ?_⟩, fun i hi => ?_⟩
  · rcases ho.2 with h3 | ⟨g', cap', cur, he, hb', hg, hc⟩
    · exact .inl h3
    · exact .inr ⟨g', cap', cur, he, hb', (hb.block g' (Array.getElem?_eq_some_iff.1 hg).1 fun e => by obtain ⟨t, ht, hn⟩ := (h1 _ e).1; exact absurd rfl (ht.ne ⟨_, hg⟩ hn)).trans hg, hc⟩
  · obtain ⟨b, off, c, e1, e2, e3, e4, e5⟩ := hx i hi
    exact ⟨b, off, c, e1, e2.but hb (fun p e => by simp at e; subst e; exact fun hs => (h1 _ hs).2 e4), e3, e4, e5⟩
theorem crash_facts (d : Dk) (c : List Nat) : (d.crash c).dead = false ∧ (d.crash c).secs.length = d.secs.length := ⟨rfl, by simp [Dk.crash, crashL]⟩
set_option linter.constructorNameAsVariable false
set_option maxRecDepth 10000 in
set_option maxHeartbeats 8000000 in
theorem logTorn_walk (a0 : Option Addr) (ls : List (List Nat)) (n0 c0 : Nat) (a1 : Option Addr) (l1 : List Nat) (n1 c1 : Nat) (a2 : Option Addr) (l2 : List Nat) (n2 c2 : Nat) (w : World) (hls : ls.length = n0) (hnm : n0 ≤ maxLen) (hg : Grid w a0 ls) (h1 : l1.length = n1) (r1 : Row w a1 l1) (h2 : l2.length = n2) (r2 : Row w a2 l2) :
    Calls Try.prog 7 #[.slice a0 n0 c0, .slice a1 n1 c1, .slice a2 n2 c2] w fun e w' => e = .returned (.bool true) ∧ Below w.heap.size w w' := by
  have HLS := hid hls
  have HNM := hid hnm
  have HG := hid hg
  have H1 := hid (And.intro h1 r1)
  have H2 := hid (And.intro h2 r2)
  clear hls hnm hg h1 r1 h2 r2
  go_enter Try.func7, Try.ntmps7
  go_wp2_with fail
  refine (awake_any w).mono ?_
  rintro e w1 ⟨rfl, hb1⟩
  have HB1 := hid hb1
  clear hb1
  go_wp2_with fail
  refine (small_any a0 ls n0 c0 HLS.out HNM.out (HG.out.below HB1.out)).mono ?_
  rintro e w2 ⟨⟨b, rfl, h60⟩, rfl⟩
  cases b with
  | false =>
    go_wp2_with fail
    go_ret
    exact ⟨rfl, HB1.out⟩
  | true =>
    have h60 := h60 rfl
    by_cases hm1 : n1 < 1
    · have hm1' : (n1 : Int) < 1 := by omega
      go_wp2_with fail
      go_ret
      exact ⟨rfl, HB1.out⟩
    have hm1' : ¬ (n1 : Int) < 1 := by omega
    by_cases hm2 : 3000 < n1
    · have hm2' : 3000 < (n1 : Int) := by omega
      go_wp2_with fail
      go_ret
      exact ⟨rfl, HB1.out⟩
    have hm2' : ¬ 3000 < (n1 : Int) := by omega
    by_cases hm3 : 100 < n2
    · have hm3' : 100 < (n2 : Int) := by omega
      go_wp2_with fail
      go_ret
      exact ⟨rfl, HB1.out⟩
    have hm3' : ¬ 100 < (n2 : Int) := by omega
    have HN := hid (new_any w2 776 (by decide))
    go_wp2_with fail
    refine HN.out.mono ?_
    rintro e w3 ⟨q, rfl, p, hd3, hb3, hq, hp⟩
    have HD3 := hid hd3
    have HB3 := hid (below_tr HB1.out hb3 HB1.out.size)
    have hq2 : w.heap.size ≤ q := Nat.le_trans HB1.out.size hq
    have hp2 : w.heap.size ≤ p := Nat.le_trans HB1.out.size hp
    clear HN hd3 hb3 hq hp HB1 hm1' hm2' hm3'
    go_wp2_with fail
    refine (Sp.new_any w3 96 96 (by decide)).mono ?_
    rintro e w4 ⟨x, rfl, hs4, hb4, hx⟩
    have HD4 := hid (HD3.out.below hb4)
    have HS4 := hid hs4
    have HB4 := hid (below_tr HB3.out hb4 HB3.out.size)
    have hx2 : w.heap.size ≤ x := Nat.le_trans HB3.out.size hx
    clear HD3 HB3 hs4 hb4 hx
    go_wp2_with fail
    refine (lnew_any w4 q).mono ?_
    rintro e w5 ⟨g, rfl, hl5, hb5, hg5⟩
    have HIS := hid (start_is (k := 96) (HD4.out.below hb5) (HS4.out.below hb5) hl5)
    have HB5 := hid (below_tr HB4.out hb5 HB4.out.size)
    have hg2 : w.heap.size ≤ g := Nat.le_trans HB4.out.size hg5
    have hlt5 := HIS.out.sys.disk.lt
    have hltx := HIS.out.sys.space.lt
    have hltg := HIS.out.sys.log.glt
    clear HD4 HS4 HB4 hl5 hb5 hg5
    go_wp2_with fail
    go_loopg [11, 12] n0 (fun gk v11 v12 wr => ∃ (i : Nat) (recs : List (Nat × List Nat)) (d : Dk) (mm : Nat) (segs : List Nat), i + gk = n0 ∧ v12 = .int .i64 (i : Int) ∧ LogIs wr g q p x d 96 mm segs recs ∧ d.ops ≤ lenOf recs ∧ Recs (fun b => b < w.heap.size) w5.heap.size wr v11 (recs.map (·.2)) ∧ Below w.heap.size w wr ∧ w5.heap.size ≤ wr.heap.size)
    case atStart => exact ⟨0, [], _, 0, [], by omega, rfl, HIS.out, by simp [fresh], recs_nil _ _ _, HB5.out, Nat.le_refl _⟩
    case round =>
      obtain ⟨i, recs, d, mm, segs, hi, rfl, his, hops, hre, hb, hsz⟩ := hrel
      clear HIS HB5
      obtain ⟨a9, c9, rfl⟩ := hre.slice
      have hrl : (recs.map (·.2)).length = recs.length := List.length_map ..
      rw [hrl] at hre ⊢
      by_cases hlt : i < n0
      · have hlt' : (i : Int) < (n0 : Int) := by omega
        have hgr := HG.out.below hb
        obtain ⟨bg, og, rfl, hcg⟩ := hgr.at_ (by intro e; have := HLS.out; rw [e] at this; simp at this; omega)
        obtain ⟨ai, ci, hci, hri⟩ := hcg i (by rw [HLS.out]; exact hlt)
        have hrw := HG.out
        have HRI := hid hri
        have HAI : Hid (ls.getD i [] ≠ [] → ∃ bb oo, ai = some ⟨bb, oo, none⟩ ∧ bb < w.heap.size) := fun hne => by
          obtain ⟨bw, ow, ew, hcw⟩ := HG.out.at_ (by intro e; have := HLS.out; rw [e] at this; simp at this; omega)
          simp at ew
          obtain ⟨rfl, rfl⟩ := ew
          obtain ⟨aw, cw, h8, h9⟩ := hcw i (by rw [HLS.out]; exact hlt)
          have h10 := (hb.cell (p := ⟨bg, og + i, none⟩) (block_lt_of_cell h8)).trans h8
          rw [hci] at h10
          simp at h10
          obtain ⟨rfl, rfl⟩ := h10
          rcases h9.2 with h11 | ⟨b2, o2, e2, hl2, _⟩
          · exact absurd h11 hne
          · exact ⟨b2, o2, e2, hl2⟩
        have HPU := hid (put_any his 3 ai (ls.getD i []) (ls.getD i []).length ci rfl hri)
        rw [show (((3 : Nat) : Int)) = 3 from rfl] at HPU
        have HX := hid (And.intro his (And.intro hops (And.intro hre (And.intro hb hsz))))
        clear hgr hcg hri his hops hre hb
        generalize hRI : ls.getD i [] = ri at *
        generalize hRL : ri.length = rl at *
        have HRL := hid hRL
        clear hRI hRL hrw
        go_wp2_with fail
        refine HPU.out.mono ?_
        rintro e w6 ⟨z, rfl, hput⟩
        obtain ⟨his, hops, hre, hb, _⟩ := HX.out
        rcases hput with ⟨rfl, hmay, _, hb6, zt, his6⟩ | ⟨rfl, _, hb6, his6⟩ | ⟨rfl, _, _, hb6, his6⟩
        · have hne : ri ≠ [] := by intro e; rw [e] at hmay; exact absurd hmay.1 (by decide)
          obtain ⟨bb, oo, rfl, hbb⟩ := HAI.out hne
          have hS : ∀ j, (j = q ∨ j = p ∨ j = x ∨ j = g) → j < w5.heap.size ∧ ¬ j < w.heap.size := fun j e => by rcases e with rfl | rfl | rfl | rfl <;> omega
          have hre6 := hre.but hb6 hS
          have hrow6 := HRI.out.but hb6 (fun v e => by simp at e; subst e; exact fun e => absurd hbb (hS _ e).2)
          have hB6 := below_tr' hb (hb6.below (base := w.heap.size) (fun k e => by have := (hS k e).2; omega) hb.size)
          have hops6 := (lays_facts d (segs ++ List.range' mm zt) (lenOf recs) (secsOf (lenOf recs) 3 (mk (lastOf 0 recs) 3 ri))).2.2.2
          rw [secsOf_len, mk_len] at hops6
          obtain ⟨xs, hox, hxx⟩ := hre6
          have hxl : xs.length = (recs.map (·.2)).length := by have := hox.1; omega
          rw [hrl] at hox
          have hal : Below w6.heap.size w6 (w6.alloc (.cells #[.slice (some ⟨bb, oo, none⟩) rl ci] 40)) := (Below.refl _ w6).alloc (Nat.le_refl _) _
          have HO8 := hid (owns_below hox hal)
          have HY8 := hid (heap_alloc_new w6 (.cells #[.slice (some ⟨bb, oo, none⟩) rl ci] 40))
          have HVN : Hid ((Value.slice a9 recs.length c9).ownBlock ≠ some bb) := fun e => by have := owns_block hox _ e; omega
          have HZ := hid (And.intro hxx (And.intro hxl (And.intro hrow6 (And.intro hne (And.intro hbb (And.intro his6 (And.intro hops6 hB6)))))))
          have hs6 := hb6.size
          have hrs : recs.length ≤ 768 := by have h8 := len_le recs; have h9 := his.sys.log.nle; omega
          have HOP := hid hops
          have hci' : w6.cell? ⟨bg, og + i, none⟩ = some (.slice (some ⟨bb, oo, none⟩) rl ci) := by
            obtain ⟨bw, ow, ew, hcw⟩ := HG.out.at_ (by intro e; have := HLS.out; rw [e] at this; simp at this; omega)
            simp at ew
            obtain ⟨rfl, rfl⟩ := ew
            obtain ⟨aw, cw, h8, h9⟩ := hcw i (by rw [HLS.out]; exact hlt)
            have hlt8 : bg < w.heap.size := block_lt_of_cell h8
            exact (hb6.cell bg (og + i) (Nat.lt_of_lt_of_le hlt8 hb.size) (fun e => absurd hlt8 (hS _ e).2)).trans hci
          clear hxx hxl hrow6 his6 hops6 hB6 hox hal his hops hre hb hb6 hS HX HPU HRI HAI hci
          go_wp2_with (at_builtin; refine wpList_app_one _ 22 40 rfl _ _ rfl 24 (.slice none 0 0) Try.underlying22 info40s rfl (by decide) w5.heap.size (.slice a9 recs.length c9) recs.length xs rfl HO8.out w6.heap.size (.slice (some ⟨bb, oo, none⟩) rl ci) rfl HY8.out rfl (by omega) (by simp; omega) ?_; intro g9 cp9 w9 ho9 hg9 hat9; have HO9 := hid ho9; have HG9 := hid hg9; have HAT9 := hid hat9; clear ho9 hg9 hat9)
          go_roundg (gk - 1)
          case measure => omega
          case rel =>
            obtain ⟨hxx, hxl, hrow6, hne, hbb, his6, hops6, hB6⟩ := HZ.out
            obtain ⟨hb9, hp5, hp3, hni⟩ := after_app (lo := w5.heap.size) HO8.out HG9.out
            have hbx := (below_but (fun j => w5.heap.size ≤ j) ((Below.refl _ w6).alloc (Nat.le_refl _) (.cells #[.slice (some ⟨bb, oo, none⟩) rl ci] 40))).trans hb9 (fun j e => .inl (owns_block HO8.out _ e))
            refine ⟨i + 1, recs ++ [(3, ri)], lays d (segs ++ List.range' mm zt) (lenOf recs) (secsOf (lenOf recs) 3 (mk (lastOf 0 recs) 3 ri)), mm + zt, segs ++ List.range' mm zt, by omega, by go_num, ?_, ?_, ?_, ?_, ?_⟩
            · have hal := (Below.refl _ w6).alloc (Nat.le_refl _) (.cells #[.slice (some ⟨bb, oo, none⟩) rl ci] 40)
              have h8 := his6.below hal
              have hno : ∀ j, j < w5.heap.size → ¬ (Value.slice a9 recs.length c9).ownBlock = some j := fun j hj e => by have := owns_block HO8.out _ e; omega
              exact ⟨⟨h8.sys.log.but hb9 hni (hno _ (by omega)), h8.sys.disk.but hb9 (hno _ (by omega)) (hno _ (by omega)), h8.sys.space.but hb9 (hno _ (by omega)), h8.sys.dead, h8.sys.fuse, h8.sys.room, h8.sys.le, h8.sys.low, h8.sys.fit, h8.sys.few⟩, h8.at_, h8.ok, h8.nodup, h8.blank, h8.ops, h8.tight, h8.whole⟩
            · rw [hops6, lenOf_app, lenOf_one]
              have := HOP.out
              show d.ops + cnt (ri.length + 16) ≤ lenOf recs + cnt (ri.length + 16)
              omega
            · rw [List.map_append]
              have hfin := Recs.snoc (rs := recs.map (·.2)) xs hxx hxl hrow6 HRL.out hne hbb HVN.out (by rw [hrl]; exact HO9.out) HG9.out HAT9.out
              rw [hrl] at hfin
              exact hfin
            · exact below_tr' hB6 (hbx.below (base := w.heap.size) (fun k e => by omega) hB6.size)
            · have := hbx.size; omega
        · clear HPU HX
          have HZ := hid (And.intro his6 (And.intro hops (And.intro (hre.below hb6) (below_tr hb hb6 hb.size))))
          have hs6 := hb6.size
          clear his his6 hops hre hb hb6
          go_wp2_with fail
          go_roundg (gk - 1)
          case measure => omega
          case rel => exact ⟨i + 1, recs, d, mm, segs, by omega, by go_num, HZ.out.1, HZ.out.2.1, HZ.out.2.2.1, HZ.out.2.2.2, by omega⟩
        · clear HPU HX
          have HZ := hid (And.intro his6 (And.intro hops (And.intro (hre.below hb6) (below_tr hb hb6 hb.size))))
          have hs6 := hb6.size
          clear his his6 hops hre hb hb6
          go_wp2_with fail
          go_roundg (gk - 1)
          case measure => omega
          case rel => exact ⟨i + 1, recs, d, mm, segs, by omega, by go_num, HZ.out.1, HZ.out.2.1, HZ.out.2.2.1, HZ.out.2.2.2, by omega⟩
      · have hlt' : ¬ (i : Int) < (n0 : Int) := by omega
        have HFL := hid (flush_any his.sys.disk (by have := his.ops; have := his.sys.log.nle; omega))
        rw [flush_free his.sys.dead his.sys.fuse] at HFL
        have HX := hid (And.intro his (And.intro hops (And.intro hre hb)))
        clear his hops hre hb
        go_wp2_with fail
        refine HFL.out.mono ?_
        rintro e w6 ⟨rfl, hd6, ho6⟩
        obtain ⟨his, hops, hre, hb⟩ := HX.out
        have hb6 : But (fun j => j = q ∨ j = p) wr w6 := ho6.but.mono (fun k e => .inl (by rcases e with e | e; exact .inl e; exact .inr (by simpa using e)))
        have his6 := flush_is his hd6 hb6 hops
        have hS : ∀ j, (j = q ∨ j = p) → j < w5.heap.size ∧ ¬ j < w.heap.size := fun j e => by rcases e with rfl | rfl <;> omega
        have hre6 := hre.but hb6 hS
        have hB6 := below_tr' hb (hb6.below (base := w.heap.size) (fun k e => by have := (hS k e).2; omega) hb.size)
        have hcalm := flushed_calm d
        have hs6 := hb6.size
        have HX6 := hid (And.intro his6 (And.intro hre6 (And.intro hB6 hcalm)))
        have HWH := hid (where_any his6.sys.log)
        clear HFL HX his hops hre hb hd6 ho6 hb6 his6 hre6 hB6 hcalm
        generalize d.flushed = d1 at *
        obtain ⟨ll, hll⟩ : ∃ ll, lenOf recs = ll := ⟨_, rfl⟩
        obtain ⟨la, hla⟩ : ∃ la, lastOf 0 recs = la := ⟨_, rfl⟩
        rw [hll, hla] at HWH
        have HLL := hid (And.intro hll hla)
        clear hll hla
        go_wp2_with fail
        refine HWH.out.mono ?_
        rintro e w7 ⟨a7, c7, rfl, hs7, _, _, _, hb7⟩
        have HST := hid (box36 w7 a7 segs.length c7 (ll : Int) (la : Int))
        have hbA : Below w7.heap.size w7 (w7.alloc (.cells #[.slice a7 segs.length c7, .int .i64 (ll : Int), .int .u32 (la : Int)] 36)) := (Below.refl _ w7).alloc (Nat.le_refl _) _
        have hbox := heap_alloc_new w7 (.cells #[.slice a7 segs.length c7, .int .i64 (ll : Int), .int .u32 (la : Int)] 36)
        obtain ⟨his6, hre6, hB6, hcalm⟩ := HX6.out
        have his8 := (his6.below hb7).below hbA
        have hre8 := (hre6.below hb7).below hbA
        have hB8 := below_tr (below_tr hB6 hb7 hB6.size) hbA (below_tr hB6 hb7 hB6.size).size
        have hs7' : w5.heap.size ≤ w7.heap.size := Nat.le_trans (Nat.le_trans hsz hs6) hb7.size
        have HPU := hid (put_any his8 3 a1 l1 n1 c1 H1.out.1 (H1.out.2.below hB8))
        rw [show (((3 : Nat) : Int)) = 3 from rfl] at HPU
        have HX8 := hid (And.intro his8 (And.intro hre8 (And.intro hB8 (And.intro hcalm hbox))))
        have hz8 : (w7.alloc (.cells #[.slice a7 segs.length c7, .int .i64 (ll : Int), .int .u32 (la : Int)] 36)).heap.size = w7.heap.size + 1 := by simp
        generalize hLS : segs.length = lsg at *
        have HLSG := hid hLS
        clear hs7 hb7 hbA hbox his6 hre6 hB6 hcalm his8 hre8 hB8 HX6 HWH hLS
        go_wp2_with (refine step_store 36 rfl _ _ rfl _ HST.out ?_)
        generalize w7.alloc (.cells #[.slice a7 lsg c7, .int .i64 (ll : Int), .int .u32 (la : Int)] 36) = w8 at *
        refine HPU.out.mono ?_
        rintro e w9 ⟨z, rfl, hput⟩
        obtain ⟨his8, hre8, hB8, hcalm, hbox⟩ := HX8.out
        have hS4 : ∀ j, (j = q ∨ j = p ∨ j = x ∨ j = g) → j < w5.heap.size ∧ ¬ j < w.heap.size := fun j e => by rcases e with rfl | rfl | rfl | rfl <;> omega
        rcases hput with ⟨rfl, hmay, hroom, hb9, zt, his9⟩ | ⟨rfl, _, hb9, _⟩ | ⟨rfl, _, _, hb9, _⟩
        · have hB9 := below_tr' hB8 (hb9.below (base := w.heap.size) (fun k e => by have := (hS4 k e).2; omega) hB8.size)
          have hre9 := hre8.but hb9 hS4
          have hs9 := hb9.size
          have hbox9 := (hb9.block w7.heap.size (by omega) (fun e => by have := (hS4 _ e).1; omega)).trans hbox
          have hsl : (segs ++ List.range' mm zt).length = lsg + zt := by rw [List.length_append, HLSG.out, List.length_range']
          have hfitA : lenOf recs + cnt (l1.length + 16) ≤ 8 * (segs ++ List.range' mm zt).length := by have h8 := his9.sys.fit; rw [lenOf_app, lenOf_one] at h8; exact h8
          have hHas2 : Has d1 (segs ++ List.range' mm zt) := fun s hs => by
            have h8 := his9.sys.has s hs
            rw [(lays_facts _ _ _ _).2.2.1] at h8
            exact h8
          obtain ⟨t1, t2, t3⟩ := torn_facts (c := l2) (bt := 3) (r := l1) (more := List.range' mm zt) hcalm his9.nodup hHas2 his8.at_ his8.blank his8.sys.fit hfitA
          have HTF := hid (And.intro t1 (And.intro t2 t3))
          have HCR := hid (crash_any his9.sys.disk a2 l2 n2 c2 (H2.out.2.below hB9) H2.out.1 (by omega))
          have HX9 := hid (And.intro his9 (And.intro hre9 (And.intro hB9 (And.intro hbox9 (And.intro hfitA (And.intro hHas2 hmay))))))
          have HOK := hid his8.ok
          have HSL := hid hsl
          have hln : lenOf recs ≤ 768 := his8.sys.log.nle
          have hlenS : lsg + zt ≤ 96 := by rw [← hsl]; exact his9.sys.log.len
          have HDL := hid (lays_facts d1 (segs ++ List.range' mm zt) (lenOf recs) (secsOf (lenOf recs) 3 (mk (lastOf 0 recs) 3 l1))).2.2.1
          clear t1 t2 t3 HPU his8 hre8 hB8 hcalm hbox hb9 HX8 his9 hB9 hre9 hbox9 hfitA hHas2 hsl
          generalize segs ++ List.range' mm zt = sg2 at *
          generalize lays d1 sg2 (lenOf recs) (secsOf (lenOf recs) 3 (mk (lastOf 0 recs) 3 l1)) = d2 at *
          go_wp2_with fail
          refine HCR.out.mono ?_
          rintro e w10 ⟨q', rfl, p', hd10, hb10, hq', hp'⟩
          obtain ⟨his9, hre9, hB9, hbox9, hfitA, hHas2, hmay⟩ := HX9.out
          have HWH := hid (where_any (his9.below hb10).sys.log)
          have HX10 := hid (And.intro hd10 (And.intro (hre9.below hb10) (And.intro (below_tr hB9 hb10 hB9.size) ((hb10.block w7.heap.size (by omega)).trans hbox9))))
          have hs10 := hb10.size
          have HXX := hid (And.intro hfitA (And.intro hHas2 hmay))
          clear his9 hre9 hB9 hbox9 hfitA hHas2 hmay HX9 HCR hd10 hb10
          rw [HSL.out] at HWH
          generalize lsg + zt = l9 at *
          go_wp2_with fail
          refine HWH.out.mono ?_
          rintro e w11 ⟨a11, c11, rfl, hsr11, hc11, hm11, hz11, hb11⟩
          obtain ⟨hd10, hre10, hB10, hbox10⟩ := HX10.out
          have hfd := field36s w11 a11 l9 c11 (lenOf (recs ++ [(3, l1)]) : Nat) (lastOf 0 (recs ++ [(3, l1)]) : Nat)
          have hbox11 := (hb11.block w7.heap.size (by omega)).trans hbox10
          have b0 : w11.cell? ⟨w7.heap.size, 0, none⟩ = some (.slice a7 lsg c7) := by rw [cell_of_row w11 _ 0 _ 36 (0, 0) hbox11]; rfl
          have f0 : w11.frozen? ⟨w7.heap.size, 0, none⟩ = false := frozen_of_row w11 _ 0 _ 36 hbox11
          have hb12 := (only_setCell w11 w7.heap.size 0 none (.slice a11 l9 c11)).but
          have hbox12 : (w11.setCell ⟨w7.heap.size, 0, none⟩ (.slice a11 l9 c11)).heap[w7.heap.size]? = some (.cells #[.slice a11 l9 c11, .int .i64 (ll : Int), .int .u32 (la : Int)] 36 (0, 0)) := heap_setCell_same _ _ _ _ _ _ hbox11
          have hS12 : ∀ j, (j = w7.heap.size ∨ some j = none) → j = w7.heap.size := fun j e => e.elim id (fun e => by cases e)
          have hT12 : ∀ j, (j = w7.heap.size ∨ some j = none) → Tag w11 j 36 := fun j e => by rw [hS12 j e]; exact ⟨_, hbox11⟩
          have hno12 : ∀ {j t : Nat}, Tag w11 j t → t ≠ 36 → ¬ (j = w7.heap.size ∨ some j = none) := fun {j t} hj h1 e => by rcases e with e | e; exact hj.ne ⟨_, hbox11⟩ h1 e; cases e
          have hd12 := (hd10.below hb11).but hb12 (hno12 (hd10.below hb11).tag.1 (by decide)) (hno12 (hd10.below hb11).tag.2 (by decide))
          have hsr12 := hsr11.but hb12 (noInts_of (fun j e => ⟨36, hT12 j e, by decide⟩))
          have hB11 := below_tr hB10 hb11 hB10.size
          have hre12 := (hre10.below hb11).but2 hb12 (fun j e => ⟨⟨36, hT12 j e, by decide⟩, by have := hS12 j e; omega⟩)
          have hB12 := below_tr' hB11 (hb12.below (base := w.heap.size) (fun k e => by have := hS12 k e; have := hB11.size; omega) hB11.size)
          have HLD36 := hid (load36 hbox12)
          have HLO := hid (load_any hd12 (crash_facts d2 l2).1 sg2 a11 l9 c11 ll la HSL.out hsr12.irow (fun s hs => by rw [(crash_facts d2 l2).2, HDL.out]; exact HXX.out.2.1 s hs) hlenS hz11)
          have HX12 := hid (And.intro hd12 (And.intro hre12 hB12))
          clear hd10 hre10 hB10 hbox10 hbox11 hbox12 hno12 hS12 hT12 hd12 hsr12 hB11 hre12 hb12 hB12 hb11 hsr11 HX10 HWH hc11 hm11 hz11
          go_wp2_with (refine step_load 36 rfl _ rfl _ HLD36.out ?_)
          generalize w11.setCell ⟨w7.heap.size, 0, none⟩ (.slice a11 l9 c11) = w12 at *
          refine HLO.out.mono ?_
          rintro e w13 ⟨hb13, hld⟩
          obtain ⟨t1, t2, t3⟩ := HTF.out
          rw [← HLL.out.1, scan_all HOK.out t1, HLL.out.2] at hld
          rcases hld with ⟨_, _, _, g6, v6, rfl, hg6, hl6, base, hbase, hre6⟩ | ⟨hno, _⟩
          · obtain ⟨hd12, hre12, hB12⟩ := HX12.out
            have hg6' : w.heap.size ≤ g6 := Nat.le_trans hB12.size hg6
            obtain ⟨a6, c6, rfl⟩ := hre6.slice
            have hrl2 : (recs.map (·.2)).length = recs.length := List.length_map ..
            rw [hrl2] at hre6 ⊢
            have hrs2 : recs.length ≤ 768 := by have h8 := len_le recs; omega
            have HSM := hid (same_any a6 a9 (recs.map (·.2)) (recs.map (·.2)) recs.length c6 recs.length c9 hrl2 hrl2 hre6.grid.2 (hre12.below hb13).grid.2 (by omega))
            have HX13 := hid (And.intro (hd12.below hb13) (And.intro hl6 (below_tr hB12 hb13 hB12.size)))
            clear hd12 hre12 hB12 hb13 hre6 hl6 HX12 HLO HLD36 t1 b0 f0
            go_wp2_with fail
            refine HSM.out.mono ?_
            rintro e w14 ⟨rfl, j14, rfl⟩
            try rw [decide_eq_true (rfl : recs.map (·.2) = recs.map (·.2))]
            try rw [decide_true]
            have hb14 : Below w13.heap.size w13 (w13.drewN j14) := ⟨rfl, rfl, rfl, Nat.le_refl _, fun _ _ => rfl⟩
            obtain ⟨hd13, hl13, hB13⟩ := HX13.out
            have HMO := hid (more_any (hl13.below hb14) (hd13.below hb14) (crash_facts d2 l2).1 (fun s hs => by rw [(crash_facts d2 l2).2, HDL.out]; exact HXX.out.2.1 s hs) 3 (8 * sg2.length - lenOf recs) rfl)
            have HB14 := hid (below_tr hB13 hb14 hB13.size)
            clear hd13 hl13 hB13 HX13 HSM hb14
            generalize w13.drewN j14 = w14 at *
            have HTM := hid (torn_more (D := pl (d2.crash l2) sg2) (k := 8 * sg2.length - lenOf recs) (last := la) (lb := bootOf 0 recs) (n := lenOf recs) (m := 8 * sg2.length - lenOf recs) (bt := 3) (r := l1) (fits := mfits 3) HXX.out.2.2.1 HXX.out.2.2.2.1 H1.out.2.1 (by decide) (fun lb b h => by unfold mfits at h; simp at h; omega) (by have := HXX.out.1; omega) (by rw [← HLL.out.2]; exact t2) (fun i h1 h2 => t3 i h1 (by omega)))
            generalize scan (mfits 3) (pl (d2.crash l2) sg2) (8 * sg2.length - lenOf recs) la (bootOf 0 recs) (lenOf recs) (8 * sg2.length - lenOf recs) = RS at *
            clear t2 t3
            go_wp2_with fail
            refine HMO.out.mono ?_
            rintro e w15 ⟨v15, rfl, hre15, _, hb15⟩
            have HB15 := hid (below_tr' HB14.out (hb15.below (base := w.heap.size) (fun k e => by omega) HB14.out.size))
            obtain ⟨a15, c15, rfl⟩ := hre15.slice
            have hgr15 := hre15.grid.2
            clear hre15 hb15 HMO HB14
            rcases HTM.out with hR | hR
            · rw [hR]
              clear hgr15 HTM
              simp only [List.map_nil, List.length_nil]
              go_wp2_with fail
              go_quiet (fail)
              go_wp2_with fail
              go_ret
              exact ⟨rfl, ⟨HB15.out.os, HB15.out.tape, HB15.out.output, HB15.out.size, HB15.out.block⟩⟩
            · rw [hR] at hgr15 ⊢
              simp only [List.map_cons, List.map_nil, List.length_cons, List.length_nil] at hgr15 ⊢
              obtain ⟨bq, oq, rfl, hcq⟩ := hgr15.at_ (by simp)
              obtain ⟨aq, cq, hcq0, hrq⟩ := hcq 0 (by simp)
              simp only [List.getD_cons_zero, Nat.add_zero] at hcq0 hrq
              rw [H1.out.1] at hcq0
              have hr15 := H1.out.2.below HB15.out
              have cv1 : ∀ m, (convert 40 9 (.slice aq n1 cq)).run Try.prog (w15.drewN m) = .ok (.string (strOf l1)) (w15.drewN m) := fun m => str_any _ _ _ _ _ H1.out.1 ⟨hrq.1, hrq.2⟩
              have cv2 : ∀ m, (convert 40 9 (.slice a1 n1 c1)).run Try.prog (w15.drewN m) = .ok (.string (strOf l1)) (w15.drewN m) := fun m => str_any _ _ _ _ _ H1.out.1 ⟨hr15.1, hr15.2⟩
              clear hgr15 hcq hrq hr15 HTM
              generalize strOf l1 = SX at *
              have hss : (SX.toList == SX.toList) = true := by simp
              go_wp2_with fail
              go_quiet (fail)
              go_wp2_with fail
              go_ret
              exact ⟨rfl, ⟨HB15.out.os, HB15.out.tape, HB15.out.output, HB15.out.size, HB15.out.block⟩⟩
          · exact absurd ⟨by rw [HSL.out]; have := HXX.out.1; rw [HSL.out] at this; omega, rfl, rfl⟩ hno
        · have HBF := hid (below_tr hB8 hb9 hB8.size)
          clear HPU his8 hre8 hB8 hcalm hbox hb9 HX8
          go_wp2_with fail
          go_ret
          exact ⟨rfl, HBF.out⟩
        · have HBF := hid (below_tr hB8 hb9 hB8.size)
          clear HPU his8 hre8 hB8 hcalm hbox hb9 HX8
          go_wp2_with fail
          go_ret
          exact ⟨rfl, HBF.out⟩
end Go.Proofs.Yteohjfhflodklaa
