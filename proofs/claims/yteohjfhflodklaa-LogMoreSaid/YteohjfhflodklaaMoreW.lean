/- LogMore: told to any length that was one: what was appended behind is found, of its boot and later ones; of an elder boot it is not. No condition. -/
import Derived.Test.YteohjfhflodklaaLogX
namespace Go.Proofs.Yteohjfhflodklaa
open Go.ChangeShapes Go.WideShapes Go.ChangeAt Go.RowKit Pen
open Crc (four nx run)
set_option maxRecDepth 4000
set_option linter.constructorNameAsVariable false
set_option maxRecDepth 10000 in
set_option maxHeartbeats 8000000 in
theorem logMore_walk (a0 : Option Addr) (ls : List (List Nat)) (n0 c0 : Nat) (C B0 B1 : Nat) (w : World) (hC : C < 256) (hB0 : B0 < 256) (hB1 : B1 < 256) (hls : ls.length = n0) (hnm : n0 ≤ maxLen) (hg : Grid w a0 ls) :
    Calls Try.prog 4 #[.slice a0 n0 c0, .int .u8 (C : Int), .agg #[.int .u8 (B0 : Int), .int .u8 (B1 : Int)]] w fun e w' => e = .returned (.bool true) ∧ Below w.heap.size w w' := by
  have HLS := hid hls
  have HNM := hid hnm
  have HG := hid hg
  have hC' : (C : Int) < 256 := by omega
  have hB0' : (B0 : Int) < 256 := by omega
  have hB1' : (B1 : Int) < 256 := by omega
  obtain ⟨wp, hwp⟩ : ∃ wp, wp = w.alloc (.cells #[.int .u8 (B0 : Int), .int .u8 (B1 : Int)] 48) := ⟨_, rfl⟩
  have HBP : Hid (Below w.heap.size w wp) := by rw [hwp]; exact (Below.refl _ _).alloc (Nat.le_refl _) _
  have HPP : Hid (wp.heap[w.heap.size]? = some (.cells #[.int .u8 (B0 : Int), .int .u8 (B1 : Int)] 48 (0, 0))) := by rw [hwp]; exact heap_alloc_new _ _
  have HWP := hid hwp
  clear hls hnm hg hwp
  go_enter Try.func4, Try.ntmps4
  go_wp2_with fail
  rw [← HWP.out]
  refine (awake_any wp).mono ?_
  rintro e w1 ⟨rfl, hb1⟩
  have HB1 := hid (below_tr HBP.out hb1 HBP.out.size)
  have HP1 := hid ((hb1.block _ (Array.getElem?_eq_some_iff.1 HPP.out).1).trans HPP.out)
  clear hb1 HBP HPP HWP
  go_wp2_with fail
  refine (small_any a0 ls n0 c0 HLS.out HNM.out (HG.out.below HB1.out)).mono ?_
  rintro e w2 ⟨⟨b, rfl, h60⟩, rfl⟩
  cases b with
  | false =>
    go_wp2_with fail
    go_ret
    exact ⟨rfl, HB1.out⟩
  | true =>
    have h60 := h60 rfl
    have HN := hid (new_any w2 776 (by decide))
    go_wp2_with fail
    refine HN.out.mono ?_
    rintro e w3 ⟨q, rfl, p, hd3, hb3, hq, hp⟩
    have HD3 := hid hd3
    have HB3 := hid (below_tr HB1.out hb3 HB1.out.size)
    have HP3 := hid ((hb3.block _ (Array.getElem?_eq_some_iff.1 HP1.out).1).trans HP1.out)
    have hq2 : w.heap.size ≤ q := Nat.le_trans HB1.out.size hq
    have hp2 : w.heap.size ≤ p := Nat.le_trans HB1.out.size hp
    clear HN hd3 hb3 hq hp HB1 HP1
    go_wp2_with fail
    refine (Sp.new_any w3 96 96 (by decide)).mono ?_
    rintro e w4 ⟨x, rfl, hs4, hb4, hx⟩
    have HD4 := hid (HD3.out.below hb4)
    have HS4 := hid hs4
    have HB4 := hid (below_tr HB3.out hb4 HB3.out.size)
    have HP4 := hid ((hb4.block _ (Array.getElem?_eq_some_iff.1 HP3.out).1).trans HP3.out)
    have hx2 : w.heap.size ≤ x := Nat.le_trans HB3.out.size hx
    clear HD3 HB3 HP3 hs4 hb4 hx
    go_wp2_with fail
    refine (lnew_any w4 q).mono ?_
    rintro e w5 ⟨g, rfl, hl5, hb5, hg5⟩
    have his := start_is (k := 96) (HD4.out.below hb5) (HS4.out.below hb5) hl5
    have HB5 := hid (below_tr HB4.out hb5 HB4.out.size)
    have hp5 := (hb5.block _ (Array.getElem?_eq_some_iff.1 HP4.out).1).trans HP4.out
    have HP5 := hid hp5
    have hg2 : w.heap.size ≤ g := Nat.le_trans HB4.out.size hg5
    have hlt5 := his.sys.disk.lt
    have hltx := his.sys.space.lt
    have hltg := his.sys.log.glt
    have HIS : Hid (Ing w.heap.size w5.heap.size w5 g q p x (fresh (8 + 8 * 96)) 96 0 [] [] (.slice none 0 0) []) := ⟨his, recs_nil _ _ _, Nat.le_refl _, fun j e => by rcases e with rfl | rfl | rfl | rfl <;> omega, HB5.out.size⟩
    have hpl := (Array.getElem?_eq_some_iff.1 hp5).1
    have p0 : w5.cell? ⟨w.heap.size, 0, none⟩ = some (.int .u8 (B0 : Int)) := by rw [cell_of_row w5 _ 0 _ 48 (0, 0) hp5]; rfl
    obtain ⟨bt, hbt⟩ : ∃ bt, B0 % 5 = bt := ⟨_, rfl⟩
    have hbtI : (B0 : Int) % 5 = (bt : Int) := by omega
    have hbt5 : (bt : Int) < 5 := by omega
    have hl5e : LogAt w5 g q [] 0 0 0 := his.sys.log
    have HW5 := hid (where_any hl5e)
    clear hl5e HD4 HS4 HB4 HP4 hl5 hb5 hg5 his hlt5 hltx hltg hg2 hx2 hq2 hp2 hp5 hbt
    go_wp2_with fail
    refine HW5.out.mono ?_
    rintro e w6 ⟨a6, c6, rfl, _, _, _, _, hb6⟩
    have hbA : Below w6.heap.size w6 (w6.alloc (.cells #[.slice a6 0 c6, .int .i64 0, .int .u32 0] 36)) := (Below.refl _ w6).alloc (Nat.le_refl _) _
    have HI7 := hid ((HIS.out.below hb6).below hbA)
    have hbAA := below_tr hb6 hbA hb6.size
    have HP7 := hid ((hbAA.block _ hpl).trans HP5.out)
    have HB7 := hid (below_tr HB5.out hbAA HB5.out.size)
    have hw6 := hb6.size
    have HWS : Hid (Wheres w5.heap.size (w6.alloc (.cells #[.slice a6 0 c6, .int .i64 0, .int .u32 0] 36)) (.slice (some ⟨w6.heap.size, 0, none⟩) 1 1) []) := by
      refine ⟨[.slice a6 0 c6, .int .i64 0, .int .u32 0], ⟨rfl, .inr ⟨w6.heap.size, 1, _, rfl, hw6, heap_alloc_new w6 _, Nat.le_refl _, by decide, rfl, rfl⟩⟩, fun j hj => ?_⟩
      have : j = 0 := by simpa using hj
      subst this
      exact ⟨a6, 0, c6, rfl, rfl, rfl⟩
    clear hb6 hbA hbAA HIS HB5 HP5 HW5 p0
    go_wp2_with fail
    generalize w6.alloc (.cells #[.slice a6 0 c6, .int .i64 0, .int .u32 0] 36) = w7 at *
    go_loopg [12, 13, 14] n0 (fun gk v12 v13 v14 wr => ∃ (i : Nat) (recs : List (Nat × List Nat)) (d : Dk) (mm : Nat) (segs : List Nat), i + gk = n0 ∧ v14 = .int .i64 (i : Int) ∧ Ing w.heap.size w5.heap.size wr g q p x d 96 mm segs recs v12 (recs.map (·.2)) ∧ Wheres w5.heap.size wr v13 recs ∧ (∀ y ∈ recs, y.1 = bt) ∧ wr.heap[w.heap.size]? = some (Obj.cells #[.int .u8 (B0 : Int), .int .u8 (B1 : Int)] 48 (0, 0)) ∧ Below w.heap.size w wr)
    case atStart => exact ⟨0, [], _, 0, [], by omega, rfl, HI7.out, HWS.out, by simp, HP7.out, HB7.out⟩
    case round =>
      obtain ⟨i, recs, d, mm, segs, hi, rfl, hin, hws, hbts, hpp, hb⟩ := hrel
      clear HI7 HWS HP7 HB7
      obtain ⟨a9, c9, rfl⟩ := hin.rows.slice
      obtain ⟨R, hR⟩ : ∃ R, (recs.map (·.2)).length = R := ⟨_, rfl⟩
      have hRl : recs.length = R := by rw [← hR, List.length_map]
      have hR7 : R ≤ 768 := by rw [← hRl]; have h8 := len_le recs; have h9 := hin.is.sys.log.nle; omega
      rw [hR] at hin ⊢
      have HRR := hid hR
      have HRL := hid hRl
      have hL7 : lenOf recs ≤ 768 := hin.is.sys.log.nle
      have HI := hid hi
      have HBTS := hid hbts
      obtain ⟨y13, c13, cur13, hv13, hy13, hcur, hob, hels⟩ := hws.slice
      rw [hRl] at hv13
      subst hv13
      by_cases hlt : i < n0
      · have hlt' : (i : Int) < (n0 : Int) := by omega
        obtain ⟨bg, og, ai, ci, rfl, hgr, hai⟩ := grid_at HG.out (i := i) (by rw [HLS.out]; exact hlt)
        have HGR := hid hgr
        have HAI := hid hai
        obtain ⟨ri, hri⟩ : ∃ ri, ls.getD i [] = ri := ⟨_, rfl⟩
        obtain ⟨rl, hrl⟩ : ∃ rl, ri.length = rl := ⟨_, rfl⟩
        rw [hri] at HGR HAI
        rw [hrl] at HGR
        have HRI := hid hrl
        have HIN := hid hin
        have HWS := hid hws
        have HPP := hid hpp
        have HB := hid hb
        have hgr8 := HGR.out _ hb
        have HPU := hid (put_any hin.is bt ai ri rl ci hrl hgr8.2)
        have hci8 := hgr8.1
        clear hin hws hpp hb hgr hai hri hrl hi hR hRl hbts hgr8 hcur hels hob
        go_wp2_with fail
        refine HPU.out.mono ?_
        rintro e w9 ⟨z, rfl, hput⟩
        rcases hput with ⟨rfl, hmay, hroom, hb9, zt, his9⟩ | ⟨rfl, hno, hb9, his9⟩ | ⟨rfl, hmay, hroom, hb9, his9⟩
        · have hne : ri ≠ [] := by intro e; rw [e] at hmay; exact absurd hmay.1 (by decide)
          obtain ⟨bb, oo, rfl, hbb⟩ := HAI.out hne
          have hin9 := HIN.out.put hb9 his9
          have hlow9 := HIN.out.low hb9
          have HB9 := hid (below_tr' HB.out hlow9)
          have hws9 := HWS.out.keep (fun y cur h1 h2 => HIN.out.young hb9 h2 h1)
          have hpp9 := (hb9.block _ (Array.getElem?_eq_some_iff.1 HPP.out).1 (fun e => by have := HIN.out.far _ e; have h9 := HIN.out.is.sys.disk.tag; have hq := Tag.ne (s := 48) ⟨_, HPP.out⟩ h9.1 (by decide); have hp := Tag.ne (s := 48) ⟨_, HPP.out⟩ h9.2 (by decide); have hx := Tag.ne (s := 48) ⟨_, HPP.out⟩ HIN.out.is.sys.space.tag (by decide); have hgg := Tag.ne (s := 48) ⟨_, HPP.out⟩ HIN.out.is.sys.log.tag (by decide); rcases e with e | e | e | e <;> contradiction)).trans HPP.out
          have hgr9 := HGR.out _ HB9.out
          have hci9 := hgr9.1
          obtain ⟨g9, c10, wX, hrunX, hinX, hbX, hkX⟩ := hin9.snoc HRR.out (by omega) hgr9.2 HRI.out hne hbb (cc := ci)
          have HBX := hid (below_tr' HB9.out hbX)
          have HRX := hid hrunX
          have HINX := hid hinX
          have HWSX := hid (hws9.keep (fun y cur _ h2 => hkX y 36 cur h2 (by decide)))
          have HPX := hid (hkX _ 48 _ hpp9 (by decide))
          have HWH := hid (where_any hinX.is.sys.log)
          have HB9b := HBTS
          have hnew : ∀ y ∈ recs ++ [(bt, ri)], y.1 = bt := fun y hy => by
            rcases List.mem_append.1 hy with hy | hy
            · exact HBTS.out y hy
            · simp at hy; rw [hy]
          have HBTN := hid hnew
          have hlen9 : lenOf ((recs ++ [(bt, ri)]).take (recs.length + 1)) = lenOf (recs ++ [(bt, ri)]) := by rw [List.take_of_length_le (by simp)]
          obtain ⟨lb, hlb⟩ : ∃ lb, lenOf (recs ++ [(bt, ri)]) = lb := ⟨_, rfl⟩
          obtain ⟨lc, hlc⟩ : ∃ lc, lastOf 0 (recs ++ [(bt, ri)]) = lc := ⟨_, rfl⟩
          have HLB := hid (And.intro hlb hlc)
          rw [hlb, hlc] at HWH
          clear hb9 his9 HIN HWS HPP HB HPU hci8 HAI hmay hroom hin9 hlow9 hws9 hpp9 hgr9 hrunX hinX hbX hkX hnew hlen9 hlb hlc HBTS HB9b HB9
          go_wp2_with (at_builtin; refine step_appl 22 rfl _ _ rfl _ _ rfl rfl _ wX HRX.out ?_)
          refine HWH.out.mono ?_
          rintro e wA ⟨aA, cA, rfl, _, _, _, _, hbA⟩
          obtain ⟨smz, hsmz⟩ : ∃ smz, (segs ++ List.range' mm zt).length = smz := ⟨_, rfl⟩
          rw [hsmz]
          have hbB : Below wA.heap.size wA (wA.alloc (.cells #[.slice aA smz cA, .int .i64 (lb : Int), .int .u32 (lc : Int)] 36)) := (Below.refl _ wA).alloc (Nat.le_refl _) _
          have hbAB := below_tr hbA hbB hbA.size
          have hwsB := HWSX.out.below hbAB
          have hinB := HINX.out.below hbAB
          obtain ⟨xs, hox, hxx⟩ := hwsB
          rw [HRL.out] at hox
          obtain ⟨g4, c4, wY, hrunY, hoY, hgY, hatY⟩ := app_three _ w5.heap.size _ (R + 1) xs hox wA.heap.size _ _ _ (heap_alloc_new wA _) ⟨rfl, rfl, rfl⟩ (by omega) hinB.past
          have hbut := grown_but (fun j => (Value.slice (some ⟨y13, 0, none⟩) (R + 1) c13).ownBlock = some j) hgY (fun j e => e)
          have hinY := hinB.other hbut (fun j e => ⟨(owns_tag' hox e).2, 36, (owns_tag' hox e).1, by decide, by decide⟩)
          have hpY := (hbut.block _ (by have := (Array.getElem?_eq_some_iff.1 HPX.out).1; have := hbAB.size; omega) (fun e => by have h1 := (owns_tag' hox e).1; exact Tag.ne h1 (t := 48) ⟨_, (hbAB.block _ (Array.getElem?_eq_some_iff.1 HPX.out).1).trans HPX.out⟩ (by decide) rfl)).trans ((hbAB.block _ (Array.getElem?_eq_some_iff.1 HPX.out).1).trans HPX.out)
          have hlowY : Below w.heap.size _ wY := hbut.below (base := w.heap.size) (fun j e => by have := (owns_tag' hox e).2; have := hinB.st; omega) (by have := hinB.past; have := hinB.st; omega)
          have HBY := hid (below_tr' (below_tr HBX.out hbAB HBX.out.size) hlowY)
          have hxl : xs.length = 3 * (R + 1) := by have := hox.1; omega
          have HWSY : Hid (Wheres w5.heap.size wY (.slice (some ⟨g4, 0, none⟩) (R + 2) c4) (recs ++ [(bt, ri)])) := by
            refine ⟨_, by rw [List.length_append, HRL.out]; exact hoY, fun j hj => ?_⟩
            by_cases hjR : j ≤ recs.length
            · obtain ⟨a', k', c', e0, e1, e2⟩ := hxx j hjR
              have ht : (recs ++ [(bt, ri)]).take j = recs.take j := List.take_append_of_le_length hjR
              have hj3 : 3 * j + 2 < xs.length := by rw [hxl, ← HRL.out]; omega
              rw [ht]
              exact ⟨a', k', c', by rw [List.getElem?_append_left (by omega)]; exact e0, by rw [List.getElem?_append_left (by omega)]; exact e1, by rw [List.getElem?_append_left (by omega)]; exact e2⟩
            · have hje : j = R + 1 := by have := HRL.out; simp at hj; omega
              subst hje
              have ht : (recs ++ [(bt, ri)]).take (R + 1) = recs ++ [(bt, ri)] := List.take_of_length_le (by simp; have := HRL.out; omega)
              rw [ht, HLB.out.1, HLB.out.2]
              refine ⟨aA, smz, cA, ?_, ?_, ?_⟩
              · rw [List.getElem?_append_right (by omega), hxl, Nat.sub_self]; rfl
              · rw [List.getElem?_append_right (by omega), hxl, show 3 * (R + 1) + 1 - 3 * (R + 1) = 1 by omega]; rfl
              · rw [List.getElem?_append_right (by omega), hxl, show 3 * (R + 1) + 2 - 3 * (R + 1) = 2 by omega]; rfl
          have HRY := hid hrunY
          have HINY := hid hinY
          have HPY := hid hpY
          clear hbA hbB hbAB hinB hox hxx hoY hgY hatY hbut hinY hpY hlowY hxl hrunY HINX HWSX HPX HWH HBX HRX hci9
          go_wp2_with (at_builtin; refine step_appl 49 rfl _ _ rfl _ _ rfl rfl _ wY HRY.out ?_)
          go_roundg (gk - 1)
          case measure => have := HI.out; omega
          case rel =>
            refine ⟨i + 1, recs ++ [(bt, ri)], lays d (segs ++ List.range' mm zt) (lenOf recs) (secsOf (lenOf recs) bt (mk (lastOf 0 recs) bt ri)), mm + zt, segs ++ List.range' mm zt, by have := HI.out; omega, by go_num, ?_, HWSY.out, HBTN.out, HPY.out, HBY.out⟩
            have := HINY.out
            rw [List.map_append]
            exact this
        · have HIN9 := hid (HIN.out.below hb9)
          have HWS9 := hid (HWS.out.below hb9)
          have HPP9 := hid ((hb9.block _ (Array.getElem?_eq_some_iff.1 HPP.out).1).trans HPP.out)
          have HB9 := hid (below_tr HB.out hb9 HB.out.size)
          clear hb9 his9 HIN HWS HPP HB HPU hci8 HAI hno
          go_wp2_with fail
          go_roundg (gk - 1)
          case measure => have := HI.out; omega
          case rel => exact ⟨i + 1, recs, d, mm, segs, by have := HI.out; omega, by go_num, HIN9.out, HWS9.out, HBTS.out, HPP9.out, HB9.out⟩
        · have HIN9 := hid (HIN.out.below hb9)
          have HWS9 := hid (HWS.out.below hb9)
          have HPP9 := hid ((hb9.block _ (Array.getElem?_eq_some_iff.1 HPP.out).1).trans HPP.out)
          have HB9 := hid (below_tr HB.out hb9 HB.out.size)
          clear hb9 his9 HIN HWS HPP HB HPU hci8 HAI hmay hroom
          go_wp2_with fail
          go_roundg (gk - 1)
          case measure => have := HI.out; omega
          case rel => exact ⟨i + 1, recs, d, mm, segs, by have := HI.out; omega, by go_num, HIN9.out, HWS9.out, HBTS.out, HPP9.out, HB9.out⟩
      · have hlt' : ¬ (i : Int) < (n0 : Int) := by omega
        obtain ⟨R1, hR1⟩ : ∃ R1, R + 1 = R1 := ⟨_, rfl⟩
        obtain ⟨kk, hkk⟩ : ∃ kk, C % R1 = kk := ⟨_, rfl⟩
        have hmod : (C : Int) % (R1 : Int) = (kk : Int) := by rw [← hkk]; rfl
        have h0n : ¬ R1 = 0 := by omega
        have hkR : kk ≤ R := by have := Nat.mod_lt C (show 0 < R1 by omega); omega
        have hkR1 : (kk : Int) < (R1 : Int) := by omega
        have HKR := hid hkR
        have hkR7 : (kk : Int) ≤ 768 := by omega
        obtain ⟨P, hP⟩ : ∃ P, recs.take kk = P := ⟨_, rfl⟩
        obtain ⟨D, hD⟩ : ∃ D, recs.drop kk = D := ⟨_, rfl⟩
        have hPD : P ++ D = recs := by rw [← hP, ← hD]; exact List.take_append_drop kk recs
        obtain ⟨ea, ek, ec, e0, e1, e2⟩ := hels kk (by rw [hRl]; exact hkR)
        rw [hP] at e1 e2
        have hPl : (P.map (·.2)).length = kk := by rw [List.length_map, ← hP, List.length_take, hRl]; omega
        have hDl : (D.map (·.2)).length = R - kk := by rw [List.length_map, ← hD, List.length_drop, hRl]
        have hPm : P.map (·.2) = (recs.map (·.2)).take kk := by rw [← hP, List.map_take]
        have hDm : D.map (·.2) = (recs.map (·.2)).drop kk := by rw [← hD, List.map_drop]
        have hcap : R ≤ c9 := by
          obtain ⟨xs, ho, _⟩ := hin.rows
          rcases ho.2 with ⟨e, h0⟩ | ⟨g', cap', cur', e, _, _, hc, _⟩
          · simp at e; omega
          · simp at e; omega
        obtain ⟨lp, hlp⟩ : ∃ lp, lenOf P = lp := ⟨_, rfl⟩
        obtain ⟨lq, hlq⟩ : ∃ lq, lastOf 0 P = lq := ⟨_, rfl⟩
        rw [hlp] at e1
        rw [hlq] at e2
        have hlp7 : lp ≤ 768 := by rw [← hPD, lenOf_app] at hL7; omega
        have hlp7' : (lp : Int) ≤ 768 := by omega
        have HLP := hid (And.intro hlp hlq)
        have hc3 : ∀ j, wr.cell? ⟨y13, j, none⟩ = cur13[j]? := fun j => cell_of_row wr _ j _ 36 (0, 0) hcur
        have HLDW := hid (load36_at (w := wr) (y := y13) (off := kk * 3) (by rw [hc3, Nat.mul_comm]; exact e0) (by rw [hc3, Nat.mul_comm]; exact e1) (by rw [hc3, Nat.mul_comm]; exact e2))
        have HST := hid (box36 wr ea ek ec (lp : Int) (lq : Int))
        have hbA : Below wr.heap.size wr (wr.alloc (.cells #[.slice ea ek ec, .int .i64 (lp : Int), .int .u32 (lq : Int)] 36)) := (Below.refl _ wr).alloc (Nat.le_refl _) _
        have hbox := heap_alloc_new wr (.cells #[.slice ea ek ec, .int .i64 (lp : Int), .int .u32 (lq : Int)] 36)
        have HIN8 := hid (hin.below hbA)
        have HP8 := hid ((hbA.block _ (Array.getElem?_eq_some_iff.1 hpp).1).trans hpp)
        have HB8 := hid (below_tr hb hbA hb.size)
        have HBOX := hid hbox
        have HYT := hid hin.past
        have HPD := hid (And.intro hPD (And.intro hPl (And.intro hDl (And.intro hPm hDm))))
        have HCAP := hid hcap
        obtain ⟨sl, hsl⟩ : ∃ sl, segs.length = sl := ⟨_, rfl⟩
        have HSL := hid hsl
        have HWH := hid (where_any HIN8.out.is.sys.log)
        obtain ⟨ll, hll⟩ : ∃ ll, lenOf recs = ll := ⟨_, rfl⟩
        obtain ⟨la, hla⟩ : ∃ la, lastOf 0 recs = la := ⟨_, rfl⟩
        have HLL := hid (And.intro hll hla)
        rw [hll, hla, hsl] at HWH
        rw [hR1]
        clear hin hws hpp hb hR hRl hbts hcur hels hob hkk hP hD hPD hPl hDl hPm hDm hcap hlp hlq hc3 e0 e1 e2 hbA hbox hsl hll hla hi hkR HG
        go_wp2_with (first | refine step_load 36 rfl _ rfl _ HLDW.out ?_ | refine step_store 36 rfl _ _ rfl _ HST.out ?_)
        obtain ⟨yb, hyb⟩ : ∃ yb, wr.heap.size = yb := ⟨_, rfl⟩
        rw [hyb] at HBOX HYT
        generalize wr.alloc (.cells #[.slice ea ek ec, .int .i64 (lp : Int), .int .u32 (lq : Int)] 36) = w8 at *
        refine HWH.out.mono ?_
        rintro e w9 ⟨a11, c11, rfl, hsr11, _, _, hz11, hb9⟩
        have hfd := field36s w9 a11 sl c11 (ll : Int) (la : Int)
        have hbox9 := (hb9.block yb (Array.getElem?_eq_some_iff.1 HBOX.out).1).trans HBOX.out
        have b0 : w9.cell? ⟨yb, 0, none⟩ = some (.slice ea ek ec) := by rw [cell_of_row w9 _ 0 _ 36 (0, 0) hbox9]; rfl
        have f0 : w9.frozen? ⟨yb, 0, none⟩ = false := frozen_of_row w9 _ 0 _ 36 hbox9
        have hb12 := (only_setCell w9 yb 0 none (.slice a11 sl c11)).but
        have hbox12 : (w9.setCell ⟨yb, 0, none⟩ (.slice a11 sl c11)).heap[yb]? = some (.cells #[.slice a11 sl c11, .int .i64 (lp : Int), .int .u32 (lq : Int)] 36 (0, 0)) := heap_setCell_same _ _ _ _ _ _ hbox9
        have hS12 : ∀ j, (j = yb ∨ some j = none) → j = yb := fun j e => e.elim id (fun e => by cases e)
        have hin9 := HIN8.out.below hb9
        have hin12 := hin9.other hb12 (fun j e => ⟨by rw [hS12 j e]; exact HYT.out, 36, by rw [hS12 j e]; exact ⟨_, hbox9⟩, by decide, by decide⟩)
        have hp9 := (hb9.block _ (Array.getElem?_eq_some_iff.1 HP8.out).1).trans HP8.out
        have hp12 := (hb12.block _ (Array.getElem?_eq_some_iff.1 hp9).1 (fun e => Tag.ne (s := 48) (t := 36) ⟨_, hp9⟩ ⟨_, hbox9⟩ (by decide) (hS12 _ e))).trans hp9
        have hB9 := below_tr HB8.out hb9 HB8.out.size
        have hB12 := below_tr' hB9 (hb12.below (base := w.heap.size) (fun j e => by rw [hS12 j e]; have := HYT.out; have := hin9.st; omega) hB9.size)
        have hsr12 := hsr11.but hb12 (noInts_of (fun j e => ⟨36, by rw [hS12 j e]; exact ⟨_, hbox9⟩, by decide⟩))
        have HLD36 := hid (load36 hbox12)
        have HBX12 := hid hbox12
        have HIN12 := hid hin12
        have HP12 := hid hp12
        have HB12 := hid hB12
        have hmc := more_cut (P := P) (D := D) (k := 96) (mm := mm) (by rw [HPD.out.1]; exact hin12.is) bt (by rw [HPD.out.1]; exact HBTS.out)
        have HMC := hid hmc
        have hlen96 : segs.length ≤ 96 := hin12.is.sys.log.len
        have HLO := hid (load_any hin12.is.sys.disk hin12.is.sys.dead segs a11 sl c11 lp lq HSL.out hsr12.irow hin12.is.sys.has (by rw [← HSL.out]; exact hlen96) hz11)
        clear hb9 hbox9 hb12 hbox12 hS12 hin9 hin12 hp9 hp12 hB9 hB12 hsr11 hsr12 hz11 HIN8 HP8 HB8 HBOX HWH HLDW HST hmc HBTS
        go_wp2_with (refine step_load 36 rfl _ rfl _ HLD36.out ?_)
        generalize w9.setCell ⟨yb, 0, none⟩ (.slice a11 sl c11) = w12 at *
        refine HLO.out.mono ?_
        rintro e w13 ⟨hb13, hld⟩
        obtain ⟨mat, mok, mfit, mmore⟩ := HMC.out 0
        have hsc := scan_all mok mat
        rw [HLP.out.1] at hsc
        rw [hsc] at hld
        rcases hld with ⟨_, _, _, g7, v7, rfl, hg7, hl7, base, hbase, hre7⟩ | ⟨hno, _⟩
        · obtain ⟨a7, c7, rfl⟩ := hre7.slice
          rw [HPD.out.2.1] at hre7 ⊢
          have hin13 := HIN12.out.below hb13
          have hgr9 := grid_take hin13.rows.grid.2 kk
          rw [← HPD.out.2.2.2.1] at hgr9
          have hst := fun W => slice_to22 W a9 R c9 kk (by have := HCAP.out; have := HKR.out; omega)
          have hst2 := fun W => slice_from22 W a9 R c9 kk HKR.out
          have HSM := hid (same_any a7 a9 (P.map (·.2)) (P.map (·.2)) kk c7 kk c9 HPD.out.2.1 HPD.out.2.1 hre7.grid.2 hgr9 (by have := HKR.out; omega))
          have HIN13 := hid hin13
          have HL13 := hid hl7
          have HG7 := hid (Nat.le_trans HIN12.out.past hg7)
          have HP13 := hid ((hb13.block _ (Array.getElem?_eq_some_iff.1 HP12.out).1).trans HP12.out)
          have HB13 := hid (below_tr HB12.out hb13 HB12.out.size)
          have HBX13 := hid ((hb13.block _ (Array.getElem?_eq_some_iff.1 HBX12.out).1).trans HBX12.out)
          have hyg : yb ≠ g7 := fun e => by
            have h1 := (Array.getElem?_eq_some_iff.1 HBX12.out).1
            omega
          have hpg : w.heap.size ≠ g7 := fun e => by
            have h1 := (Array.getElem?_eq_some_iff.1 HP12.out).1
            omega
          clear hin13 hgr9 hl7 hb13 hre7 HLO HLD36 HIN12 HP12 HB12 HBX12 hbase b0 f0 hfd hsc mat mok mfit mmore hg7
          go_wp2_with fail
          refine HSM.out.mono ?_
          rintro e w14 ⟨rfl, j14, hw14⟩
          try rw [decide_eq_true (rfl : P.map (·.2) = P.map (·.2))]
          try rw [decide_true]
          have hb14 : Below w13.heap.size w13 w14 := by rw [hw14]; exact to_drewN (Below.refl _ _) _
          have HIN14 := hid (HIN13.out.below hb14)
          have HL14 := hid (HL13.out.below hb14)
          have hp14 := (hb14.block _ (Array.getElem?_eq_some_iff.1 HP13.out).1).trans HP13.out
          have HB14 := hid (below_tr HB13.out hb14 HB13.out.size)
          have HBX14 := hid ((hb14.block _ (Array.getElem?_eq_some_iff.1 HBX13.out).1).trans HBX13.out)
          have p1 : w14.cell? ⟨w.heap.size, 1, none⟩ = some (.int .u8 (B1 : Int)) := by rw [cell_of_row w14 _ 1 _ 48 (0, 0) hp14]; rfl
          obtain ⟨ask, hask⟩ : ∃ ask, B1 % 6 = ask := ⟨_, rfl⟩
          have haskI : (B1 : Int) % 6 = (ask : Int) := by omega
          have HMO := hid (more_any HL14.out HIN14.out.is.sys.disk HIN14.out.is.sys.dead HIN14.out.is.sys.has (ask : Int) (8 * segs.length - lp) rfl)
          have hmm := (HMC.out (ask : Int)).2.2.2
          rw [HLP.out.1, HLP.out.2] at hmm
          rw [hmm] at HMO
          have hask6 : (ask : Int) < 6 := by omega
          have HASK := hid hask
          clear hw14 hb14 HIN13 HL13 HP13 HB13 HBX13 hp14 hmm hask HSM
          go_wp2_with fail
          refine HMO.out.mono ?_
          rintro e w15 ⟨v15, rfl, hre15, hl15, hb15⟩
          have hin15 := HIN14.out.other hb15 (fun j e => ⟨by rw [e]; exact HG7.out, 71, by rw [e]; exact HL14.out.tag, by decide, by decide⟩)
          have hB15 := below_tr' HB14.out (hb15.below (base := w.heap.size) (fun j e => by rw [e]; have := HG7.out; have := HIN14.out.st; omega) HB14.out.size)
          have HBX15 := hid ((hb15.block yb (Array.getElem?_eq_some_iff.1 HBX14.out).1 hyg).trans HBX14.out)
          have HIN15 := hid hin15
          have HB15 := hid hB15
          by_cases hle : (ask : Int) ≤ (bt : Int)
          · rw [if_pos hle] at hre15 hl15
            obtain ⟨a15, c15, rfl⟩ := hre15.slice
            rw [HPD.out.2.2.1] at hre15 ⊢
            have hgt : ¬ (bt : Int) < (ask : Int) := by omega
            have hls : lp + lenOf D = ll := by rw [← HLL.out.1, ← HPD.out.1, lenOf_app, HLP.out.1]
            have hla : lastOf lq D = la := by rw [← HLL.out.2, ← HPD.out.1, lastOf_app, HLP.out.2]
            rw [hls, hla] at hl15
            have hgr15 := grid_drop hin15.rows.grid.2 kk c9 (by rw [HRR.out]; exact HCAP.out)
            rw [← HPD.out.2.2.2.2] at hgr15
            have HSM := hid (same_any a15 (fromA a9 kk c9) (D.map (·.2)) (D.map (·.2)) (R - kk) c15 (R - kk) (c9 - kk) HPD.out.2.2.1 HPD.out.2.2.1 hre15.grid.2 hgr15 (by omega))
            have HL15 := hid hl15
            clear hin15 hB15 hre15 hl15 hb15 hgr15 hls hla HMO HIN14 HL14 HB14 HBX14 p1 HMC hle
            go_wp2_with fail
            refine HSM.out.mono ?_
            rintro e w16 ⟨rfl, j16, hw16⟩
            try rw [decide_eq_true (rfl : D.map (·.2) = D.map (·.2))]
            try rw [decide_true]
            have hb16 : Below w15.heap.size w15 w16 := by rw [hw16]; exact to_drewN (Below.refl _ _) _
            have HIN16 := hid (HIN15.out.below hb16)
            have HL16 := hid (HL15.out.below hb16)
            have HB16 := hid (below_tr HB15.out hb16 HB15.out.size)
            clear hw16 hb16 HIN15 HL15 HB15 HBX15 HSM
            have HG16 := hid HIN16.out.is.sys.log
            rw [HLL.out.1, HLL.out.2] at HG16
            go_wp2_with fail
            refine (where_any HL16.out).mono ?_
            rintro e w17 ⟨a17, c17, rfl, _, _, _, _, hb17⟩
            have HIN17 := hid (HIN16.out.below hb17)
            have HL17 := hid (HL16.out.below hb17)
            have HG17 := hid (HG16.out.below hb17)
            have HB17 := hid (below_tr HB16.out hb17 HB16.out.size)
            clear hb17 HIN16 HL16 HG16 HB16
            rw [HSL.out]
            have hf1 := field36 w17 a17 sl c17 (ll : Int) (la : Int)
            go_wp2_with fail
            refine (where_any HG17.out).mono ?_
            rintro e w18 ⟨a18, c18, rfl, _, _, _, _, hb18⟩
            have HIN18 := hid (HIN17.out.below hb18)
            have HL18 := hid (HL17.out.below hb18)
            have HG18 := hid (HG17.out.below hb18)
            have HB18 := hid (below_tr HB17.out hb18 HB17.out.size)
            clear hb18 hf1 HIN17 HL17 HG17 HB17
            rw [HSL.out]
            have hf1 := field36 w18 a18 sl c18 (ll : Int) (la : Int)
            go_wp2_with fail
            refine (where_any HL18.out).mono ?_
            rintro e w19 ⟨a19, c19, rfl, _, _, _, _, hb19⟩
            have HIN19 := hid (HIN18.out.below hb19)
            have HL19 := hid (HL18.out.below hb19)
            have HG19 := hid (HG18.out.below hb19)
            have HB19 := hid (below_tr HB18.out hb19 HB18.out.size)
            clear hb19 hf1 HIN18 HL18 HG18 HB18
            rw [HSL.out]
            have hf1 := field36l w19 a19 sl c19 (ll : Int) (la : Int)
            go_wp2_with fail
            refine (where_any HG19.out).mono ?_
            rintro e w20 ⟨a20, c20, rfl, _, _, _, _, hb20⟩
            have HIN20 := hid (HIN19.out.below hb20)
            have HL20 := hid (HL19.out.below hb20)
            have HB20 := hid (below_tr HB19.out hb20 HB19.out.size)
            clear hb20 hf1 HIN19 HL19 HG19 HB19
            rw [HSL.out]
            have hf1 := field36l w20 a20 sl c20 (ll : Int) (la : Int)
            have HMN := hid (more_none HL20.out HIN20.out.is.sys.disk HIN20.out.is.sys.dead HIN20.out.is.sys.has HIN20.out.is.nodup (by have := HIN20.out.is.blank; rwa [HLL.out.1] at this) 0)
            go_wp2_with fail
            refine HMN.out.mono ?_
            rintro e w21 ⟨a21, c21, rfl, _, hb21⟩
            have HB21 := hid (below_tr' HB20.out (hb21.below (base := w.heap.size) (fun j e => by rw [e]; have := HG7.out; have := HIN20.out.st; omega) HB20.out.size))
            clear hb21 HMN
            go_wp2_with fail
            go_ret
            exact ⟨rfl, HB21.out⟩
          · rw [if_neg hle] at hre15 hl15
            obtain ⟨a15, c15, rfl⟩ := hre15.slice
            rw [show (([] : List (Nat × List Nat)).map (·.2)).length = 0 from rfl]
            have hgt : (bt : Int) < (ask : Int) := by omega
            have hl15' : LogAt w15 g7 q segs lp lq (bootOf (bootOf 0 P) []) := hl15
            have HWW := hid (fun W hW => where_any (hl15'.below (w' := W) hW))
            have hb1 : ∀ W, Below w15.heap.size w15 W → W.cell? ⟨yb, 1, none⟩ = some (.int .i64 (lp : Int)) := fun W hW => by
              rw [cell_of_row W _ 1 _ 36 (0, 0) ((hW.block _ (Array.getElem?_eq_some_iff.1 HBX15.out).1).trans HBX15.out)]; rfl
            have hf1 := fun W a c => field36 W a sl c (lp : Int) (lq : Int)
            rw [HSL.out] at HWW
            clear hin15 hB15 hre15 hl15 hl15' hb15 HMO HIN14 HL14 HB14 HBX14 p1 HMC hle
            go_wp2_with fail
            go_region_held (fun W => Below w15.heap.size w15 W) (first | assumption | exact to_drew (Below.refl _ _)) (first
              | (go_at_call 14; refine (HWW.out _ ?_).mono ?_; assumption; rintro e w16 ⟨a16, c16, rfl, _, _, _, _, hb16⟩; have hb16 := Below.trans ‹Below w15.heap.size w15 _› (hb16.mono (Below.size ‹Below w15.heap.size w15 _›))))
            have HBZ := hid (below_tr HB15.out hb16 HB15.out.size)
            go_wp2_with fail
            go_ret
            exact ⟨rfl, HBZ.out⟩
        · exact absurd ⟨by rw [HLP.out.1] at mfit; exact mfit, HLP.out.1, HLP.out.2⟩ hno
end Go.Proofs.Yteohjfhflodklaa
