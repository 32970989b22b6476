/- LogBoth: two logs on one disk, appended to by turns, never lie over each other; one given back, the other stays. No condition. -/
import Derived.Test.YteohjfhflodklaaLogZ
namespace Go.Proofs.Yteohjfhflodklaa
open Go.ChangeShapes Go.WideShapes Go.ChangeAt Go.RowKit Pen
open Crc (four nx run)
set_option maxRecDepth 4000
/-- A row of bools that came in. -/
def BoolRow (w : World) (a : Option Addr) (n : Nat) (T : Nat → Bool) : Prop := n = 0 ∨ ∃ b off, a = some ⟨b, off, none⟩ ∧ b < w.heap.size ∧ ∀ i, i < n → w.cell? ⟨b, off + i, none⟩ = some (.bool (T i))
theorem store36z {w : World} {y : Nat} {v0 v1 v2 : Value} (a : Option Addr) (k c : Nat) (n last : Int) (h : w.heap[y]? = some (.cells #[v0, v1, v2] 36 (0, 0))) :
    (Instr.storeAt 36 (.pointer (some ⟨y, 0, none⟩)) (.agg #[.slice a k c, .int .i64 n, .int .u32 last])).run Try.prog w = .ok () (w.setRow y #[.slice a k c, .int .i64 n, .int .u32 last]) := by
  have := run_storeAt_row w y 0 36 36 [v0, v1, v2] [.slice a k c, .int .i64 n, .int .u32 last] (by simpa using h) (by exact size36) (by simp) (by intro u hu; simp at hu; rcases hu with rfl | rfl | rfl <;> rfl)
  simpa [splice] using this
theorem Both.hasa {w : World} {ga gb q p x : Nat} {d : Dk} {mm : Nat} {sa sb : List Nat} {ra rb : List (Nat × List Nat)} (h : Both w ga gb q p x d mm sa sb ra rb) : Has d sa := fun s hs => by
  have := h.lowa s hs; have := h.le; have := h.room; omega
/-- The two structs that were made and filled. -/
structure Boxes2 (y : Nat) (a b : Option Addr) (na ca nb cb : Nat) (la ta lb tb : Int) (w : World) : Prop where
  one : w.heap[y]? = some (.cells #[.slice a na ca, .int .i64 la, .int .u32 ta] 36 (0, 0))
  two : w.heap[y + 1]? = some (.cells #[.slice b nb cb, .int .i64 lb, .int .u32 tb] 36 (0, 0))
theorem Boxes2.but {S : Nat → Prop} {y : Nat} {a b : Option Addr} {na ca nb cb : Nat} {la ta lb tb : Int} {w w' : World} (h : Boxes2 y a b na ca nb cb la ta lb tb w) (hb : But S w w') (h1 : ¬ S y) (h2 : ¬ S (y + 1)) : Boxes2 y a b na ca nb cb la ta lb tb w' :=
  ⟨(hb.block _ (Array.getElem?_eq_some_iff.1 h.one).1 h1).trans h.one, (hb.block _ (Array.getElem?_eq_some_iff.1 h.two).1 h2).trans h.two⟩
theorem Boxes2.below {y : Nat} {a b : Option Addr} {na ca nb cb : Nat} {la ta lb tb : Int} {w w' : World} (h : Boxes2 y a b na ca nb cb la ta lb tb w) (hb : Below w.heap.size w w') : Boxes2 y a b na ca nb cb la ta lb tb w' :=
  h.but (below_but (fun _ => False) hb) (fun e => e.elim) (fun e => e.elim)
/-- What same of two rows that are one answers, wherever it is asked. -/
def SameOk (W : World) (a b : Option Addr) (n c d : Nat) : Prop := ∀ j, Calls Try.prog 19 #[.slice a n c, .slice b n d] (W.drewN j) fun e w'' => e = .returned (.bool true) ∧ ∃ m, w'' = W.drewN m
theorem same_ok {W : World} {a b : Option Addr} {n c d : Nat} {ls : List (List Nat)} (hn : ls.length = n) (h1 : Grid W a ls) (h2 : Grid W b ls) (h6 : n ≤ 1000000) : SameOk W a b n c d := fun j => by
  have := same_any a b ls ls n c n d hn hn (h1.below (to_drewN (Below.refl _ W) j)) (h2.below (to_drewN (Below.refl _ W) j)) h6
  rw [decide_eq_true (rfl : ls = ls)] at this
  exact Calls.quiet_of this
theorem iv_getD (l : List Nat) (i : Nat) : (iv l).getD i 0 = ((l.getD i 0 : Nat) : Int) := by
  simp only [iv, List.getD_eq_getElem?_getD, List.getElem?_map]
  cases l[i]? <;> rfl
set_option linter.constructorNameAsVariable false
set_option maxRecDepth 10000 in
set_option maxHeartbeats 8000000 in
theorem logBoth_walk (a0 : Option Addr) (ls : List (List Nat)) (n0 c0 : Nat) (a1 : Option Addr) (n1 c1 : Nat) (T : Nat → Bool) (w : World) (hls : ls.length = n0) (hnm : n0 ≤ maxLen) (hg : Grid w a0 ls) (ht : BoolRow w a1 n1 T) :
    Calls Try.prog 6 #[.slice a0 n0 c0, .slice a1 n1 c1] w fun e w' => e = .returned (.bool true) ∧ Below w.heap.size w w' := by
  have HLS := hid hls
  have HNM := hid hnm
  have HG := hid hg
  have HTR := hid ht
  clear hls hnm hg ht
  go_enter Try.func6, Try.ntmps6
  go_wp2_with fail
  refine (awake_any w).mono ?_
  rintro e w1 ⟨rfl, hb1⟩
  have HB1 := hid hb1
  clear hb1
  go_wp2_with fail
  refine (small_any a0 ls n0 c0 HLS.out HNM.out (HG.out.below HB1.out)).mono ?_
  rintro e w2 ⟨⟨b, rfl, h60⟩, rfl⟩
  cases b with
  | false =>
    go_wp2_with fail
    go_ret
    exact ⟨rfl, HB1.out⟩
  | true =>
    have h60 := h60 rfl
    have hn60 : (n0 : Int) ≤ 60 := by omega
    by_cases hshort : n1 < n0
    · have hsI : (n1 : Int) < (n0 : Int) := by omega
      go_wp2_with fail
      go_ret
      exact ⟨rfl, HB1.out⟩
    have hsI : ¬ (n1 : Int) < (n0 : Int) := by omega
    have HN := hid (new_any w2 776 (by decide))
    go_wp2_with fail
    refine HN.out.mono ?_
    rintro e w3 ⟨q, rfl, p, hd3, hb3, hq, hp⟩
    have HD3 := hid hd3
    have HB3 := hid (below_tr HB1.out hb3 HB1.out.size)
    have hq2 : w.heap.size ≤ q := Nat.le_trans HB1.out.size hq
    have hp2 : w.heap.size ≤ p := Nat.le_trans HB1.out.size hp
    clear HN hd3 hb3 hq hp HB1
    go_wp2_with fail
    refine (Sp.new_any w3 96 96 (by decide)).mono ?_
    rintro e w4 ⟨x, rfl, hs4, hb4, hx⟩
    have HD4 := hid (HD3.out.below hb4)
    have HS4 := hid hs4
    have HB4 := hid (below_tr HB3.out hb4 HB3.out.size)
    have hx2 : w.heap.size ≤ x := Nat.le_trans HB3.out.size hx
    clear HD3 HB3 hs4 hb4 hx
    go_wp2_with fail
    refine (lnew_any w4 q).mono ?_
    rintro e w5 ⟨ga, rfl, hl5, hb5, hg5⟩
    have HD5 := hid (HD4.out.below hb5)
    have HS5 := hid (HS4.out.below hb5)
    have HL5 := hid hl5
    have HB5 := hid (below_tr HB4.out hb5 HB4.out.size)
    have hg2 : w.heap.size ≤ ga := Nat.le_trans HB4.out.size hg5
    clear HD4 HS4 HB4 hl5 hb5 hg5
    go_wp2_with fail
    refine (lnew_any w5 q).mono ?_
    rintro e w6 ⟨gb, rfl, hl6, hb6, hg6⟩
    have hs6 := HS5.out.below hb6
    rw [← Sp.upTo_zero] at hs6
    have hab : ga ≠ gb := fun e => by have := HL5.out.glt; omega
    have HBO : Hid (Both w6 ga gb q p x (fresh 776) 0 [] [] [] []) := ⟨HL5.out.below hb6, hl6, HD5.out.below hb6, hs6, rfl, rfl, by simp [fresh], by decide, by simp, by simp, by simp [lenOf], by simp [lenOf], fun i hi => by simp [lay] at hi, fun i hi => by simp [lay] at hi, by simp, by simp, by simp, by simp [fresh], by simp [segsN, lenOf], by simp [segsN, lenOf], rfl, hab⟩
    have HB6 := hid (below_tr HB5.out hb6 HB5.out.size)
    have hlt6 := HBO.out.disk.lt
    have hltx := HBO.out.space.lt
    have hlta := HBO.out.la.glt
    have hltb := HBO.out.lb.glt
    have hgb2 : w.heap.size ≤ gb := Nat.le_trans HB5.out.size hg6
    have HFAR : Hid (∀ j, (j = q ∨ j = p ∨ j = x ∨ j = ga ∨ j = gb) → j < w6.heap.size ∧ w.heap.size ≤ j) := fun j e => by rcases e with rfl | rfl | rfl | rfl | rfl <;> omega
    have HRO : Hid (RecsB w.heap.size w6.heap.size w6 (.slice none 0 0) (.slice none 0 0) [] []) := ⟨recs_nil _ _ _, recs_nil _ _ _, fun k h => by simp [Value.ownBlock] at h⟩
    have hst : w.heap.size ≤ w6.heap.size := HB6.out.size
    clear HD5 HS5 HL5 HB5 hl6 hb6 hg6 hs6 hab hlt6 hltx hlta hltb hgb2 hg2 hx2 hq2 hp2
    go_wp2_with fail
    go_loopg [10, 11, 12] n0 (fun gk v10 v11 v12 wr => ∃ (i : Nat) (ra rb : List (Nat × List Nat)) (d : Dk) (mm : Nat) (sa sb : List Nat), i + gk = n0 ∧ v12 = .int .i64 (i : Int) ∧ Both wr ga gb q p x d mm sa sb ra rb ∧ RecsB w.heap.size w6.heap.size wr v10 v11 (ra.map (·.2)) (rb.map (·.2)) ∧ Below w.heap.size w wr ∧ w6.heap.size ≤ wr.heap.size)
    case atStart => exact ⟨0, [], [], fresh 776, 0, [], [], by omega, rfl, HBO.out, HRO.out, HB6.out, Nat.le_refl _⟩
    case round =>
      obtain ⟨i, ra, rb, d, mm, sa, sb, hi, rfl, hbo, hro, hb, hpast⟩ := hrel
      clear HBO HRO HB6
      obtain ⟨a8, c8, rfl⟩ := hro.a.slice
      obtain ⟨a9, c9, rfl⟩ := hro.b.slice
      obtain ⟨RA, hRA⟩ : ∃ R, (ra.map (·.2)).length = R := ⟨_, rfl⟩
      obtain ⟨RB, hRB⟩ : ∃ R, (rb.map (·.2)).length = R := ⟨_, rfl⟩
      have hRA7 : RA ≤ 768 := by rw [← hRA, List.length_map]; have h8 := len_le ra; have h9 := hbo.la.nle; omega
      have hRB7 : RB ≤ 768 := by rw [← hRB, List.length_map]; have h8 := len_le rb; have h9 := hbo.lb.nle; omega
      rw [hRA, hRB] at hro ⊢
      have HRA := hid hRA
      have HRB := hid hRB
      have HI := hid hi
      have HBO := hid hbo
      have HRO := hid hro
      have HB := hid hb
      have HPAST := hid hpast
      clear hi hRA hRB hbo hro hb hpast
      by_cases hlt : i < n0
      · have hlt' : (i : Int) < (n0 : Int) := by omega
        have hlt1 : (i : Int) < (n1 : Int) := by omega
        obtain ⟨bg, og, ai, ci, rfl, hgr, hai⟩ := grid_at HG.out (i := i) (by rw [HLS.out]; exact hlt)
        have HGR := hid hgr
        have HAI := hid hai
        obtain ⟨ri, hri⟩ : ∃ ri, ls.getD i [] = ri := ⟨_, rfl⟩
        obtain ⟨rl, hrl⟩ : ∃ rl, ri.length = rl := ⟨_, rfl⟩
        rw [hri] at HGR HAI
        rw [hrl] at HGR
        have HRL := hid hrl
        have hgr8 := HGR.out _ HB.out
        obtain ⟨bt_, ot_, rfl, hbt_, hct_⟩ : ∃ b off, a1 = some ⟨b, off, none⟩ ∧ b < w.heap.size ∧ ∀ i, i < n1 → w.cell? ⟨b, off + i, none⟩ = some (.bool (T i)) := by
          rcases HTR.out with h | h
          · omega
          · exact h
        have hcT : wr.cell? ⟨bt_, ot_ + i, none⟩ = some (.bool (T i)) := (HB.out.cell hbt_).trans (hct_ i (by omega))
        obtain ⟨tv, htv⟩ : ∃ tv, T i = tv := ⟨_, rfl⟩
        rw [htv] at hcT
        clear hgr hai hri hrl HG hct_ htv
        cases tv with
        | true =>
          have HPU := hid (both_put HBO.out 1 ai ri rl ci HRL.out hgr8.2)
          rw [show (((1 : Nat) : Int)) = 1 from rfl] at HPU
          have hci8 := hgr8.1
          clear hgr8
          go_wp2_with fail
          refine HPU.out.mono ?_
          rintro e w9 ⟨z, rfl, hput⟩
          rcases hput with ⟨rfl, hmay, hb9, d9, mm9, s9, hbo9⟩ | ⟨hz, hb9, hbo9⟩
          · have hne : ri ≠ [] := by intro e; rw [e] at hmay; exact absurd hmay.1 (by decide)
            obtain ⟨bb, oo, rfl, hbb⟩ := HAI.out hne
            have hro9 := HRO.out.but hb9 (fun j e => HFAR.out j (by rcases e with e | e | e | e; exact .inl e; exact .inr (.inl e); exact .inr (.inr (.inl e)); exact .inr (.inr (.inr (.inl e)))))
            have hb9l := hb9.below (base := w.heap.size) (fun j e => (HFAR.out j (by rcases e with e | e | e | e; exact .inl e; exact .inr (.inl e); exact .inr (.inr (.inl e)); exact .inr (.inr (.inr (.inl e))))).2) HB.out.size
            have HB9 := hid (below_tr' HB.out hb9l)
            have hgr9 := HGR.out _ HB9.out
            have hci9 := hgr9.1
            have hp9 := Nat.le_trans HPAST.out hb9.size
            obtain ⟨g9, c10, wX, hrunX, hroX, hbX, S, hbS, hS⟩ := hro9.snoc hst hp9 HRA.out (by omega) hgr9.2 HRL.out hne hbb (cc := ci)
            have hal : Below w9.heap.size w9 (w9.alloc (.cells #[.slice (some ⟨bb, oo, none⟩) rl ci] 40)) := (Below.refl _ w9).alloc (Nat.le_refl _) _
            have hboX := (hbo9.below hal).but hbS (noInts_of (fun j e => ⟨40, (hS j e).2, by decide⟩)) (fun j e h => by have h1 := HFAR.out j e; have h2 := (hS j h).1; omega)
            have HBX := hid (below_tr' HB9.out hbX)
            have HRX := hid hrunX
            have HROX := hid hroX
            have HBOX := hid hboX
            have hpX := Nat.le_trans hp9 hbX.size
            have HPX := hid hpX
            clear hb9 hbo9 HBO HRO HB HPAST HPU hci8 HAI hmay hro9 hb9l hgr9 hp9 hrunX hroX hbX hbS hS hal hboX hpX HB9
            go_wp2_with (at_builtin; refine step_appl 22 rfl _ _ rfl _ _ rfl rfl _ wX HRX.out ?_)
            go_roundg (gk - 1)
            case measure => have := HI.out; omega
            case rel =>
              refine ⟨i + 1, ra ++ [(1, ri)], rb, d9, mm9, s9, sb, by have := HI.out; omega, by go_num, HBOX.out, ?_, HBX.out, HPX.out⟩
              have := HROX.out
              rw [List.map_append]
              exact this
          · have HBO9 := hid hbo9
            have HRO9 := hid (HRO.out.below hb9)
            have HB9 := hid (below_tr HB.out hb9 HB.out.size)
            have HP9 := hid (Nat.le_trans HPAST.out hb9.size)
            clear hb9 hbo9 HBO HRO HB HPAST HPU hci8 HAI
            rcases hz with rfl | rfl
            · go_wp2_with fail
              go_roundg (gk - 1)
              case measure => have := HI.out; omega
              case rel => exact ⟨i + 1, ra, rb, d, mm, sa, sb, by have := HI.out; omega, by go_num, HBO9.out, HRO9.out, HB9.out, HP9.out⟩
            · go_wp2_with fail
              go_roundg (gk - 1)
              case measure => have := HI.out; omega
              case rel => exact ⟨i + 1, ra, rb, d, mm, sa, sb, by have := HI.out; omega, by go_num, HBO9.out, HRO9.out, HB9.out, HP9.out⟩
        | false =>
          have HPU := hid (both_put HBO.out.swap 2 ai ri rl ci HRL.out hgr8.2)
          rw [show (((2 : Nat) : Int)) = 2 from rfl] at HPU
          have hci8 := hgr8.1
          clear hgr8
          go_wp2_with fail
          refine HPU.out.mono ?_
          rintro e w9 ⟨z, rfl, hput⟩
          rcases hput with ⟨rfl, hmay, hb9, d9, mm9, s9, hbo9⟩ | ⟨hz, hb9, hbo9⟩
          · have hne : ri ≠ [] := by intro e; rw [e] at hmay; exact absurd hmay.1 (by decide)
            obtain ⟨bb, oo, rfl, hbb⟩ := HAI.out hne
            have hro9 := HRO.out.but hb9 (fun j e => HFAR.out j (by rcases e with e | e | e | e; exact .inl e; exact .inr (.inl e); exact .inr (.inr (.inl e)); exact .inr (.inr (.inr (.inr e)))))
            have hb9l := hb9.below (base := w.heap.size) (fun j e => (HFAR.out j (by rcases e with e | e | e | e; exact .inl e; exact .inr (.inl e); exact .inr (.inr (.inl e)); exact .inr (.inr (.inr (.inr e))))).2) HB.out.size
            have HB9 := hid (below_tr' HB.out hb9l)
            have hgr9 := HGR.out _ HB9.out
            have hci9 := hgr9.1
            have hp9 := Nat.le_trans HPAST.out hb9.size
            obtain ⟨g9, c10, wX, hrunX, hroX, hbX, S, hbS, hS⟩ := hro9.swap.snoc hst hp9 HRB.out (by omega) hgr9.2 HRL.out hne hbb (cc := ci)
            have hal : Below w9.heap.size w9 (w9.alloc (.cells #[.slice (some ⟨bb, oo, none⟩) rl ci] 40)) := (Below.refl _ w9).alloc (Nat.le_refl _) _
            have hboX := (hbo9.swap.below hal).but hbS (noInts_of (fun j e => ⟨40, (hS j e).2, by decide⟩)) (fun j e h => by have h1 := HFAR.out j e; have h2 := (hS j h).1; omega)
            have HBX := hid (below_tr' HB9.out hbX)
            have HRX := hid hrunX
            have HROX := hid hroX.swap
            have HBOX := hid hboX
            have hpX := Nat.le_trans hp9 hbX.size
            have HPX := hid hpX
            clear hb9 hbo9 HBO HRO HB HPAST HPU hci8 HAI hmay hro9 hb9l hgr9 hp9 hrunX hroX hbX hbS hS hal hboX hpX HB9
            go_wp2_with (at_builtin; refine step_appl 22 rfl _ _ rfl _ _ rfl rfl _ wX HRX.out ?_)
            go_roundg (gk - 1)
            case measure => have := HI.out; omega
            case rel =>
              refine ⟨i + 1, ra, rb ++ [(2, ri)], d9, mm9, sa, s9, by have := HI.out; omega, by go_num, HBOX.out, ?_, HBX.out, HPX.out⟩
              have := HROX.out
              rw [List.map_append]
              exact this
          · have HBO9 := hid hbo9.swap
            have HRO9 := hid (HRO.out.below hb9)
            have HB9 := hid (below_tr HB.out hb9 HB.out.size)
            have HP9 := hid (Nat.le_trans HPAST.out hb9.size)
            clear hb9 hbo9 HBO HRO HB HPAST HPU hci8 HAI
            rcases hz with rfl | rfl
            · go_wp2_with fail
              go_roundg (gk - 1)
              case measure => have := HI.out; omega
              case rel => exact ⟨i + 1, ra, rb, d, mm, sa, sb, by have := HI.out; omega, by go_num, HBO9.out, HRO9.out, HB9.out, HP9.out⟩
            · go_wp2_with fail
              go_roundg (gk - 1)
              case measure => have := HI.out; omega
              case rel => exact ⟨i + 1, ra, rb, d, mm, sa, sb, by have := HI.out; omega, by go_num, HBO9.out, HRO9.out, HB9.out, HP9.out⟩
      · have hlt' : ¬ (i : Int) < (n0 : Int) := by omega
        clear HG HTR
        obtain ⟨l1, hl1⟩ : ∃ l, lenOf ra = l := ⟨_, rfl⟩
        obtain ⟨t1, ht1⟩ : ∃ l, lastOf 0 ra = l := ⟨_, rfl⟩
        obtain ⟨na, hna⟩ : ∃ l, sa.length = l := ⟨_, rfl⟩
        obtain ⟨l2, hl2⟩ : ∃ l, lenOf rb = l := ⟨_, rfl⟩
        obtain ⟨t2, ht2⟩ : ∃ l, lastOf 0 rb = l := ⟨_, rfl⟩
        obtain ⟨nb, hnb⟩ : ∃ l, sb.length = l := ⟨_, rfl⟩
        have HLA := hid (And.intro hl1 (And.intro ht1 hna))
        have HLB := hid (And.intro hl2 (And.intro ht2 hnb))
        have HWA := hid (where_any HBO.out.la)
        rw [hl1, ht1, hna] at HWA
        have hna96 : na ≤ 96 := by rw [← hna]; exact HBO.out.la.len
        have hnb96 : nb ≤ 96 := by rw [← hnb]; exact HBO.out.lb.len
        clear hl1 ht1 hna hl2 ht2 hnb
        go_wp2_with fail
        refine HWA.out.mono ?_
        rintro e w7 ⟨a6, c6, rfl, hs6, _, _, hz6, hb7⟩
        have HBO7 := hid (HBO.out.below hb7)
        have HRO7 := hid (HRO.out.below hb7)
        have HB7 := hid (below_tr HB.out hb7 HB.out.size)
        have HS7 := hid hs6
        have HP7 := hid (Nat.le_trans HPAST.out hb7.size)
        have HWB := hid (where_any HBO7.out.lb)
        rw [HLB.out.1, HLB.out.2.1, HLB.out.2.2] at HWB
        clear hs6 hb7 HBO HRO HB HPAST HWA
        go_wp2_with fail
        refine HWB.out.mono ?_
        rintro e w8 ⟨a7, c7, rfl, hs8b, _, _, hz7, hb8⟩
        obtain ⟨z, hz⟩ : ∃ z : Obj, z = .cells #[.slice none 0 0, .int .i64 0, .int .u32 0] 36 := ⟨_, rfl⟩
        obtain ⟨V, hV⟩ : ∃ V, V = (w8.alloc z).alloc z := ⟨_, rfl⟩
        have hVb : Below w8.heap.size w8 V := by rw [hV]; exact ((Below.refl _ _).alloc (Nat.le_refl _) _).alloc (by simp) _
        have hV1 : V.heap[w8.heap.size]? = some z := by rw [hV, heap_alloc_old _ _ (by simp)]; exact heap_alloc_new _ _
        have hV2 : V.heap[w8.heap.size + 1]? = some z := by
          have := heap_alloc_new (w8.alloc z) z
          rw [hV]
          simpa using this
        rw [hz] at hV hV1 hV2
        have HST1 := hid (store36z a6 na c6 (l1 : Int) (t1 : Int) hV1)
        obtain ⟨V1, hVV1⟩ : ∃ V1, V1 = V.setRow w8.heap.size #[.slice a6 na c6, .int .i64 (l1 : Int), .int .u32 (t1 : Int)] := ⟨_, rfl⟩
        have h1b : Below w8.heap.size w8 V1 := by rw [hVV1]; exact below_setRow hVb (Nat.le_refl _) _
        have h1a : V1.heap[w8.heap.size]? = some (.cells #[.slice a6 na c6, .int .i64 (l1 : Int), .int .u32 (t1 : Int)] 36 (0, 0)) := by rw [hVV1]; exact setRow_heap V _ _ _ 36 (0, 0) hV1
        have h1c : V1.heap[w8.heap.size + 1]? = some (.cells #[.slice none 0 0, .int .i64 0, .int .u32 0] 36 (0, 0)) := by rw [hVV1, setRow_other _ _ _ _ (by omega)]; exact hV2
        rw [← hVV1] at HST1
        have HST2 := hid (store36z a7 nb c7 (l2 : Int) (t2 : Int) h1c)
        obtain ⟨V2, hVV2⟩ : ∃ V2, V2 = V1.setRow (w8.heap.size + 1) #[.slice a7 nb c7, .int .i64 (l2 : Int), .int .u32 (t2 : Int)] := ⟨_, rfl⟩
        have h2b : Below w8.heap.size w8 V2 := by rw [hVV2]; exact below_setRow h1b (by omega) _
        have HBX : Hid (Boxes2 w8.heap.size a6 a7 na c6 nb c7 (l1 : Int) (t1 : Int) (l2 : Int) (t2 : Int) V2) := ⟨by rw [hVV2, setRow_other _ _ _ _ (by omega)]; exact h1a, by rw [hVV2]; exact setRow_heap V1 _ _ _ 36 (0, 0) h1c⟩
        rw [← hVV2] at HST2
        have hb82 := below_tr hb8 h2b hb8.size
        have HBOV := hid (HBO7.out.below hb82)
        have HROV := hid (HRO7.out.below hb82)
        have HBV := hid (below_tr HB7.out hb82 HB7.out.size)
        have HIA := hid ((HS7.out.irow.below hb82))
        have HIB := hid (hs8b.but (below_but (fun _ => False) h2b) (fun _ e => e.elim))
        have HYP := hid (Nat.le_trans HP7.out hb8.size)
        rw [hV] at HST1
        clear hz hV hVb hV1 hV2 hVV1 h1b h1a h1c hVV2 h2b hb82 hb8 hs8b HBO7 HRO7 HB7 HS7 HP7 HWB
        go_wp2_with (first | refine step_store 36 rfl _ _ rfl _ HST1.out ?_ | refine step_store 36 rfl _ _ rfl _ HST2.out ?_)
        clear HST1 HST2
        obtain ⟨y, hy⟩ : ∃ y, w8.heap.size = y := ⟨_, rfl⟩
        rw [hy] at HBX HYP ⊢
        clear hy
        go_loopg [15] na (fun gk v15 wr => ∃ i : Nat, i + gk = na ∧ v15 = .int .i64 (i : Int) ∧ ∃ nd, wr = V2.drewN nd)
        case atStart => exact ⟨0, by omega, rfl, 0, rfl⟩
        case round =>
          obtain ⟨i, hi, rfl, nd, hnd⟩ := hrel
          have HI2 := hid hi
          have hbr : Below V2.heap.size V2 wr := by rw [hnd]; exact to_drewN (Below.refl _ _) _
          have hbx := HBX.out.below hbr
          have b0 : wr.cell? ⟨y, 0, none⟩ = some (.slice a6 na c6) := by rw [cell_of_row wr _ 0 _ 36 (0, 0) hbx.one]; rfl
          have HND := hid hnd
          clear hi hnd hbx hbr
          by_cases hia : i < na
          · have hiaI : (i : Int) < (na : Int) := by omega
            go_wp2_with fail
            obtain ⟨G, hG⟩ : ∃ G, G = gk := ⟨_, rfl⟩
            subst hG
            go_loopg [16] nb (fun gk v16 w' => ∃ j : Nat, j + gk = nb ∧ v16 = .int .i64 (j : Int) ∧ ∃ nd, w' = V2.drewN nd)
            case atStart => exact ⟨0, by omega, rfl, nd, HND.out⟩
            case round =>
              obtain ⟨j, hj, rfl, nd2, hnd2⟩ := hrel
              have HJ2 := hid hj
              have hbr : Below V2.heap.size V2 wr := by rw [hnd2]; exact to_drewN (Below.refl _ _) _
              have hbx := HBX.out.below hbr
              have b0 : wr.cell? ⟨y, 0, none⟩ = some (.slice a6 na c6) := by rw [cell_of_row wr _ 0 _ 36 (0, 0) hbx.one]; rfl
              have b1 : wr.cell? ⟨y + 1, 0, none⟩ = some (.slice a7 nb c7) := by rw [cell_of_row wr _ 0 _ 36 (0, 0) hbx.two]; rfl
              have HND2 := hid hnd2
              by_cases hjb : j < nb
              · have hjbI : (j : Int) < (nb : Int) := by omega
                obtain ⟨ba, oa, rfl, _, hca⟩ := HIA.out.cell (by intro e; have h1 := congrArg List.length e; rw [iv_len, HLA.out.2.2] at h1; simp at h1; omega)
                obtain ⟨bb, ob, rfl, _, hcb⟩ := HIB.out.irow.cell (by intro e; have h1 := congrArg List.length e; rw [iv_len, HLB.out.2.2] at h1; simp at h1; omega)
                have ha0 := hca i (by rw [iv_len, HLA.out.2.2]; exact hia)
                have hb0 := hcb j (by rw [iv_len, HLB.out.2.2]; exact hjb)
                rw [iv_getD] at ha0 hb0
                have ha1 : wr.cell? ⟨ba, oa + i, none⟩ = some (.int .i64 ((sa.getD i 0 : Nat) : Int)) := (hbr.cell (block_lt_of_cell ha0)).trans ha0
                have hb1 : wr.cell? ⟨bb, ob + j, none⟩ = some (.int .i64 ((sb.getD j 0 : Nat) : Int)) := (hbr.cell (block_lt_of_cell hb0)).trans hb0
                have hne : sa.getD i 0 ≠ sb.getD j 0 := by
                  have h1 : i < sa.length := by rw [HLA.out.2.2]; exact hia
                  have h2 : j < sb.length := by rw [HLB.out.2.2]; exact hjb
                  rw [List.getD_eq_getElem?_getD, List.getD_eq_getElem?_getD, List.getElem?_eq_getElem h1, List.getElem?_eq_getElem h2]
                  exact (List.nodup_append.1 HBOV.out.nodup).2.2 _ (List.getElem_mem h1) _ (List.getElem_mem h2)
                generalize sa.getD i 0 = SA at *
                generalize sb.getD j 0 = SB at *
                have heq : ((SA : Int) == (SB : Int)) = false := by simp; omega
                clear hj hnd2 hbx hca hcb ha0 hb0 hne hbr
                go_wp2_with fail
                go_quiet (fail)
                go_wp2_with fail
                go_roundg (gk - 1)
                case measure => have := HJ2.out; omega
                case rel => exact ⟨j + 1, by have := HJ2.out; omega, by go_num, nd2 + nq, by rw [HND2.out, World.drewN_drewN]⟩
              · have hjbI : ¬ (j : Int) < (nb : Int) := by omega
                clear hj hnd2 hbx hbr
                go_wp2_with fail
                go_roundg (G - 1)
                case measure => have := HI2.out; omega
                case rel => exact ⟨i + 1, by have := HI2.out; omega, by go_num, nd2, HND2.out⟩
          · have hiaI : ¬ (i : Int) < (na : Int) := by omega
            have hbr : Below V2.heap.size V2 wr := by rw [HND.out]; exact to_drewN (Below.refl _ _) _
            have HBOW := hid (HBOV.out.below hbr)
            have HROW := hid (HROV.out.below hbr)
            have HBW := hid (below_tr HBV.out hbr HBV.out.size)
            have HIAW := hid (HIA.out.below hbr)
            have HIBW := hid (HIB.out.but (below_but (fun _ => False) hbr) (fun _ e => e.elim))
            have HBXW := hid (HBX.out.below hbr)
            have HLD1 := hid (load36 HBXW.out.one)
            have HLDA := hid (load_any HBOW.out.disk HBOW.out.dead sa a6 na c6 l1 t1 HLA.out.2.2 HIAW.out HBOW.out.hasa hna96 hz6)
            have HSCA := hid (scan_all HBOW.out.oka HBOW.out.ata)
            rw [HLA.out.1] at HSCA
            clear hbr HBOV HROV HBV HIA HIB HBX HND
            go_wp2_with (refine step_load 36 rfl _ rfl _ HLD1.out ?_)
            refine HLDA.out.mono ?_
            rintro e w10 ⟨hb10, hld⟩
            rw [HSCA.out] at hld
            rcases hld with ⟨_, _, _, g7, v7, rfl, hg7, hl7, base, hbase, hre7⟩ | ⟨hno, _⟩
            · obtain ⟨a10, c10, rfl⟩ := hre7.slice
              rw [HRA.out] at hre7 ⊢
              have HRE7 := hid hre7
              have hybase : y < base := Nat.lt_of_lt_of_le (Array.getElem?_eq_some_iff.1 HBXW.out.one).1 hbase
              have HBO10 := hid (HBOW.out.below hb10)
              have HRO10 := hid (HROW.out.below hb10)
              have HB10 := hid (below_tr HBW.out hb10 HBW.out.size)
              have HIB10 := hid (HIBW.out.but (below_but (fun _ => False) hb10) (fun _ e => e.elim))
              have HBX10 := hid (HBXW.out.below hb10)
              have HGV := hid (lgive_any HBO10.out.la HBO10.out.space (fun s hs => Nat.lt_of_lt_of_le (HBO10.out.lowa s hs) HBO10.out.le))
              clear b0 hb10 hl7 hre7 hbase HBOW HROW HBW HIAW HIBW HBXW HLD1 HLDA HSCA hg7
              go_wp2_with fail
              refine HGV.out.mono ?_
              rintro e w11 ⟨rfl, hlG, hsG, hbG⟩
              have hfarG : ∀ j, (j = x ∨ j = ga) → j < w6.heap.size ∧ w.heap.size ≤ j := fun j e => HFAR.out j (by rcases e with rfl | rfl; exact .inr (.inr (.inl rfl)); exact .inr (.inr (.inr (.inl rfl))))
              have hniG : NoInts (fun j => j = x ∨ j = ga) w10 := noInts_of (fun j e => by rcases e with rfl | rfl; exact ⟨69, HBO10.out.space.tag, by decide⟩; exact ⟨71, HBO10.out.la.tag, by decide⟩)
              have htg := HBO10.out.disk.tag
              have hd11 := HBO10.out.disk.but hbG (fun e => by rcases e with e | e; exact htg.1.ne HBO10.out.space.tag (by decide) e; exact htg.1.ne HBO10.out.la.tag (by decide) e) (fun e => by rcases e with e | e; exact htg.2.ne HBO10.out.space.tag (by decide) e; exact htg.2.ne HBO10.out.la.tag (by decide) e)
              have hro11 := HRO10.out.but hbG hfarG
              have hB11 := below_tr' HB10.out (hbG.below (base := w.heap.size) (fun j e => (hfarG j e).2) HB10.out.size)
              have hib11 := HIB10.out.but hbG hniG
              have hbx11 := HBX10.out.but hbG (fun e => by have := hfarG _ e; have := HYP.out; omega) (fun e => by have := hfarG _ e; have := HYP.out; omega)
              have hre11 := HRE7.out.but hbG (fun j e => by have h1 := (hfarG j e).1; have h2 := HYP.out; omega)
              have hnf : Sp.nfree (giveAll (Sp.upTo mm) sa) 96 = 96 - nb := by
                rw [nfree_giveAll (by decide) sa _ (Sp.upTo_len mm) (List.nodup_append.1 HBO10.out.nodup).1 (fun s hs => ⟨Nat.lt_of_lt_of_le (HBO10.out.lowa s hs) HBO10.out.le, by rw [Sp.upTo_get mm s (by have := HBO10.out.lowa s hs; have := HBO10.out.le; omega)]; exact decide_eq_true (HBO10.out.lowa s hs)⟩), nfree_upTo _ _ (by decide), HLA.out.2.2]
                have h1 := HBO10.out.whole
                rw [HLA.out.2.2, HLB.out.2.2] at h1
                have := HBO10.out.le
                omega
              have hb0 := hbx11.two
              have HLD2 := hid (load36 hb0)
              have hhasb := HBO10.out.swap.hasa
              have HLDB := hid (load_any hd11 HBO10.out.dead sb a7 nb c7 l2 t2 HLB.out.2.2 hib11.irow hhasb hnb96 hz7)
              have HSCB := hid (scan_all HBO10.out.okb HBO10.out.atb)
              rw [HLB.out.1] at HSCB
              have HX11 := hid (And.intro hre11 (And.intro hro11 (And.intro hB11 (And.intro hbx11 (And.intro hsG hnf)))))
              have HFB := hid HBO10.out.fitb
              clear hlG hsG hbG hfarG hniG htg hd11 hro11 hB11 hib11 hbx11 hre11 hnf hb0 hhasb HBO10 HRO10 HB10 HIB10 HBX10 HGV HRE7
              go_wp2_with (refine step_load 36 rfl _ rfl _ HLD2.out ?_)
              refine HLDB.out.mono ?_
              rintro e w12 ⟨hb12, hld⟩
              rw [HSCB.out] at hld
              rcases hld with ⟨_, _, _, g8, v8, rfl, _, _, base2, _, hre8⟩ | ⟨hno, _⟩
              · obtain ⟨a12, c12, rfl⟩ := hre8.slice
                rw [HRB.out] at hre8 ⊢
                obtain ⟨hre11, hro11, hB11, hbx11, hsG, hnf⟩ := HX11.out
                have hro12 := hro11.below hb12
                have hsa : SameOk w12 a10 a8 RA c10 c8 := same_ok HRA.out (hre11.below hb12).grid.2 hro12.a.grid.2 (by omega)
                have hsb : SameOk w12 a12 a9 RB c12 c9 := same_ok HRB.out hre8.grid.2 hro12.b.grid.2 (by omega)
                have hbx12 := hbx11.below hb12
                have b1 : w12.cell? ⟨y + 1, 0, none⟩ = some (.slice a7 nb c7) := by rw [cell_of_row w12 _ 0 _ 36 (0, 0) hbx12.two]; rfl
                have HFT := hid (fun n => Sp.free_any ((hsG.below hb12).below (to_drewN (Below.refl _ w12) n)))
                rw [hnf] at HFT
                have HB12 := hid (below_tr hB11 hb12 hB11.size)
                obtain ⟨fr, hfr⟩ : ∃ fr, 96 - nb = fr := ⟨_, rfl⟩
                rw [hfr] at HFT
                have hq2 : (96 : Int) - (nb : Int) = (fr : Int) := by omega
                have hw1 : IntKind.i64.wrap ((96 : Int) - (nb : Int)) = (fr : Int) := by rw [hq2]; exact wrap_i64 fr (by omega)
                have hw2 : IntKind.i64.wrap (fr : Int) = (fr : Int) := wrap_i64 fr (by omega)
                clear hre8 hre11 hro11 hB11 hbx11 hsG hnf hro12 hbx12 hb12 hfr HX11 HLDB HSCB HLD2
                go_wp2_with fail
                refine wp_region_quiet_lit (by kernel_rfl) (by kernel_rfl) ?_
                quiet_step (fail)
                quiet_step (fail)
                quiet_step (fail)
                quiet_step (fail)
                quiet_step (fail)
                quiet_step (fail)
                quiet_step (fail)
                quiet_step (fail)
                quiet_step (fail)
                refine wpQuiet_step (fun K hK => ?_)
                go_simp
                apply Exists.intro
                refine ⟨fun _ => ?_, hK _ ?_⟩
                exact hsa _
                clear hK K
                quiet_step (fail)
                quiet_step (fail)
                quiet_step (fail)
                quiet_step (fail)
                refine wpQuiet_step (fun K hK => ?_)
                go_simp
                apply Exists.intro
                refine ⟨fun _ => ?_, hK _ ?_⟩
                exact hsb _
                clear hK K
                quiet_step (fail)
                quiet_step (fail)
                quiet_step (fail)
                refine wpQuiet_step (fun K hK => ?_)
                go_simp
                apply Exists.intro
                refine ⟨fun _ => ?_, hK _ ?_⟩
                exact Calls.quiet_of (HFT.out _)
                clear hK K
                quiet_step (fail)
                quiet_step (fail)
                quiet_step (fail)
                quiet_step (fail)
                quiet_step (fail)
                quiet_step (fail)
                quiet_step (fail)
                refine wpQuiet_nil ?_
                intro _ hw'
                obtain ⟨nq, hw''⟩ := hw'
                subst hw''
                go_wp2_with fail
                go_ret
                exact ⟨rfl, to_drewN HB12.out _⟩
              · exact absurd ⟨by have := HFB.out; rw [HLB.out.1] at this; exact this, HLB.out.1, HLB.out.2.1⟩ hno
            · exact absurd ⟨by have := HBOW.out.fita; rw [HLA.out.1] at this; exact this, HLA.out.1, HLA.out.2.1⟩ hno
end Go.Proofs.Yteohjfhflodklaa
