/- LogOver: a record that is written over whatever lay there, of elder boots, while power goes: it is there whole, or not at all. No condition. -/
import Derived.Test.YteohjfhflodklabLogW
import Derived.Test.YteohjfhflodklabOverM
namespace Go.Proofs.Yteohjfhflodklab
open Go.ChangeShapes Go.WideShapes Go.ChangeAt Go.RowKit Pen
open Crc (four nx run)
set_option maxRecDepth 4000
/-- No row that came in is longer than its room. -/
def Caps (w : World) (a : Option Addr) (n : Nat) : Prop := ∀ b off i ai li ci, a = some ⟨b, off, none⟩ → i < n → w.cell? ⟨b, off + i, none⟩ = some (.slice ai li ci) → li ≤ ci
theorem caps_of {H : Type} {enc : TypeId × Value → H} {w : World} {fuel : Nat} {a : Option Addr} {len cap : Nat} {x : DataW H × List MemPlace} (h : DataW.trod enc Try.prog w 0 (fun _ => true) true fuel 22 (Value.slice a len cap).cells.toList = some x) : Caps w a len := by
  intro b off i ai li ci ha hi hc
  rcases Go.Deep.open_int_rows Try.underlying22 Try.underlying42 Try.underlying5 (by kernel_rfl) (by kernel_rfl) h with ⟨hcs, _⟩ | ⟨y, l, c, A, L, C, Z, hcs, _, hl, hm, _, hr⟩
  · simp [Value.cells] at hcs
    omega
  · simp [Value.cells] at hcs
    obtain ⟨h1, h2, h3⟩ := hcs
    subst h1 h2 h3
    simp at ha
    subst ha
    have hadd : (⟨b, off, none⟩ : Addr).add i = ⟨b, off + i, none⟩ := by unfold Addr.add; split <;> simp_all
    obtain ⟨e1, e2, _⟩ := hr i (by omega)
    rw [hadd, hc] at e1
    simp at e1
    omega
theorem old_over {l : List Nat} (hl : l.length = 64) {a c : Nat} (ha : a ≤ 6) (hc : c ≤ 6) (h0 : l.getD 0 0 = a) (h60 : l.getD 60 0 = c) (h1 : (l.drop 1).take 3 = [0, 0, 0]) (h61 : l.drop 61 = [0, 0, 0]) : Old l := by
  refine ⟨hl, a, c, ha, hc, ?_, ?_⟩
  · have e : l.take 4 = l.getD 0 0 :: (l.drop 1).take 3 := by
      cases l with
      | nil => simp at hl
      | cons x l => simp
    rw [e, h0, h1]
  · rw [List.drop_eq_getElem_cons (by omega), h61]
    have : l[60]'(by omega) = c := by rw [← h60]; simp [List.getD_eq_getElem?_getD, List.getElem?_eq_getElem (show 60 < l.length by omega)]
    rw [this]
theorem hz000 : (strOf [0, 0, 0]).toList = [0, 0, 0] := by rw [ByteArray.toList_eq]; rfl
theorem str000 : ({ data := #[0, 0, 0] } : ByteArray) = strOf [0, 0, 0] := by rfl
theorem wr_read {d : Dk} {i : Nat} (b : List Nat) (hi : i < d.secs.length) (h : ∀ j, Old (d.read j)) (hb : Old b) : ∀ j, Old ((d.wr i b).read j) := fun j => by
  rw [read_wr b j hi]
  split
  · exact hb
  · exact h j
set_option linter.constructorNameAsVariable false
set_option maxRecDepth 10000 in
set_option maxHeartbeats 8000000 in
theorem logOver_walk (a0 : Option Addr) (ls : List (List Nat)) (n0 c0 : Nat) (a1 : Option Addr) (l1 : List Nat) (n1 c1 : Nat) (a2 : Option Addr) (l2 : List Nat) (n2 c2 : Nat) (w : World) (hls : ls.length = n0) (hg : Grid w a0 ls) (hcaps : Caps w a0 n0) (h1 : l1.length = n1) (r1 : Row w a1 l1) (h2 : l2.length = n2) (r2 : Row w a2 l2) :
    Calls Try.prog 4 #[.slice a0 n0 c0, .slice a1 n1 c1, .slice a2 n2 c2] w fun e w' => e = .returned (.bool true) ∧ Below w.heap.size w w' := by
  have HLS := hid hls
  have HG := hid hg
  have HCAP := hid hcaps
  have H1 := hid (And.intro h1 r1)
  have H2 := hid (And.intro h2 r2)
  clear hls hg h1 r1 h2 r2 hcaps
  by_cases hgd : n0 ≤ 40 ∧ 1 ≤ n1 ∧ n1 ≤ 1500 ∧ n2 ≤ 100
  · obtain ⟨hn0, hn1, hn1', hn2⟩ := hgd
    have k0 : (n0 : Int) ≤ 40 := by omega
    have k1 : 1 ≤ (n1 : Int) := by omega
    have k2 : (n1 : Int) ≤ 1500 := by omega
    have k3 : (n2 : Int) ≤ 100 := by omega
    go_enter Try.func4, Try.ntmps4
    go_wp2_with fail
    refine (awake_any w).mono ?_
    rintro e w1 ⟨rfl, hb1⟩
    have HB1 := hid hb1
    have HN := hid (new_any w1 776 (by decide))
    clear hb1
    go_wp2_with fail
    refine HN.out.mono ?_
    rintro e w3 ⟨q, rfl, p, hd3, hb3, hq, hp⟩
    have HD3 := hid hd3
    have HB3 := hid (below_tr HB1.out hb3 HB1.out.size)
    have hq2 : w.heap.size ≤ q := Nat.le_trans HB1.out.size hq
    have hp2 : w.heap.size ≤ p := Nat.le_trans HB1.out.size hp
    clear HN hd3 hb3 hq hp HB1
    go_wp2_with fail
    refine (Sp.new_any w3 96 96 (by decide)).mono ?_
    rintro e w4 ⟨x, rfl, hs4, hb4, hx⟩
    have HD4 := hid (HD3.out.below hb4)
    have HS4 := hid hs4
    have HB4 := hid (below_tr HB3.out hb4 HB3.out.size)
    have hx2 : w.heap.size ≤ x := Nat.le_trans HB3.out.size hx
    clear HD3 HB3 hs4 hb4 hx
    have HFR : Hid (∀ j, Old ((fresh 776).read j)) := fun j => by rw [fresh_read]; exact old_zeros
    go_wp2_with fail
    go_loopg [10] n0 (fun gk v10 wr => ∃ (i : Nat) (d : Dk), i + gk = n0 ∧ v10 = .int .i64 (i : Int) ∧ DiskAt wr q p d ∧ Sp.SpAt wr x 96 Sp.z96 ∧ d.dead = false ∧ d.fuse = none ∧ d.secs.length = 776 ∧ d.ops ≤ i ∧ (∀ j, Old (d.read j)) ∧ Below w.heap.size w wr)
    case atStart => exact ⟨0, fresh 776, by omega, rfl, HD4.out, HS4.out, rfl, rfl, by simp [fresh], by simp [fresh], HFR.out, HB4.out⟩
    case round =>
      obtain ⟨i, d, hi, rfl, hd, hsp, hdead, hfuse, hlen, hops, hold, hb⟩ := hrel
      clear HD4 HS4 HB4 HFR
      have HI := hid hi
      have HX := hid (And.intro hd (And.intro hsp (And.intro hdead (And.intro hfuse (And.intro hlen (And.intro hops (And.intro hold hb)))))))
      clear hi hd hsp hdead hfuse hlen hops hold hb
      by_cases hlt : i < n0
      · have hlt' : (i : Int) < (n0 : Int) := by omega
        obtain ⟨bg, og, ai, ci, rfl, hgr, hai⟩ := grid_at HG.out (i := i) (by rw [HLS.out]; exact hlt)
        have HGR := hid hgr
        obtain ⟨ri, hri⟩ : ∃ ri, ls.getD i [] = ri := ⟨_, rfl⟩
        obtain ⟨rl, hrl⟩ : ∃ rl, ri.length = rl := ⟨_, rfl⟩
        rw [hri, hrl] at HGR
        have hcap : rl ≤ ci := HCAP.out bg og i ai rl ci rfl hlt (HGR.out w (Below.refl _ _)).1
        have HRL := hid hrl
        obtain ⟨m, hm⟩ : ∃ m, min rl 64 = m := ⟨_, rfl⟩
        have hmn1 : (if (64 : Int) < (rl : Int) then (64 : Int) else (rl : Int)) = (m : Int) := by split <;> omega
        have hmn2 : min (rl : Int) 64 = (m : Int) := by omega
        have hst := fun W => slice_to W ai rl ci m (by omega)
        have hmk := make64' wr
        have HMM := hid (show m ≤ 64 ∧ m ≤ rl by omega)
        have HB := hid HX.out.2.2.2.2.2.2.2
        have H0 : Hid (Buf (wr.alloc (.cells (row8 zeros) 5)) wr.heap.size zeros) := buf_new wr zeros bytes_zeros.2
        have hbA : Below wr.heap.size wr (wr.alloc (.cells (row8 zeros) 5)) := (Below.refl _ _).alloc (Nat.le_refl _) _
        have HBA := hid hbA
        have HB7 := hid (below_tr HB.out hbA HB.out.size)
        obtain ⟨y, hy⟩ : ∃ y, wr.heap.size = y := ⟨_, rfl⟩
        have hyw : w.heap.size ≤ y := by rw [← hy]; exact HB.out.size
        have HYY := hid hy
        generalize hW0 : wr.alloc (.cells (row8 zeros) 5) = W0 at *
        rw [hy] at H0 hmk
        have HW0 := hid hW0
        obtain ⟨hcW, hrW⟩ := HGR.out W0 HB7.out
        have HRW := hid (row_take hrW m)
        have hlm : (ri.take m).length = m := by rw [List.length_take, HRL.out]; have := HMM.out; omega
        have HLM := hid hlm
        have HS1 : Hid (W0.drew.cell? ⟨bg, og + i, none⟩ = some (.slice ai rl ci)) := hcW
        have HD0 : Hid (Buf W0.drew y zeros) := ⟨H0.out.1, H0.out.2⟩
        have hrd : Row W0.drew ai (ri.take m) := HRW.out.below (to_drew (Below.refl _ _))
        have hrdlt := hid hrd.1
        have HRUN := hid (run_copy_bytes W0.drew 3 y 0 64 64 ai m ci _ 5 HD0.out.cur (ri.take m) (by rw [HLM.out]; have := HMM.out; exact (Nat.min_eq_left this.1).symm) hrd (by rw [HLM.out, vals_len]; have := HMM.out; simp [zeros]; omega))
        have hbgy : bg ≠ y := fun e => by have := block_lt_of_cell (HGR.out w (Below.refl _ _)).1; simp at this; omega
        clear hgr hai hri hrl hm hbA hcW hrW hlm hrd hW0 hy HG
        go_wp2_with fail
        have HS2 : Hid ((W0.drew.setRow y (splice (vals zeros) 0 (vals (ri.take m))).toArray).cell? ⟨bg, og + i, none⟩ = some (.slice ai rl ci)) := (World.cell?_of_block (w := W0.drew) (a := ⟨bg, og + i, none⟩) (setRow_other W0.drew y bg _ hbgy)).trans HS1.out
        go_region_held_law (fun W => W.cell? ⟨bg, og + i, none⟩ = some (.slice ai rl ci)) (first | exact HS1.out | exact HS2.out) (refine step_copy_region rfl (.tmp 59) (.tmp 70) rfl y 0 64 64 ai m ci rfl rfl _ _ HRUN.out ?_)
        have HBUF := hid (buf_copy (off := 0) HD0.out hrdlt.out)
        have hbW : Below wr.heap.size wr (W0.drew.setRow y (splice (vals zeros) 0 (vals (ri.take m))).toArray) := below_setRow (to_drew HBA.out) (by rw [HYY.out]; exact Nat.le_refl _) _
        have HBW := hid hbW
        have HBW2 := hid (below_tr HB.out hbW HB.out.size)
        generalize W0.drew.setRow y (splice (vals zeros) 0 (vals (ri.take m))).toArray = W1 at *
        have hLl : (over zeros 0 (ri.take m)).length = 64 := by rw [over_len _ _ _ (by rw [HLM.out]; have := HMM.out; show 0 + m ≤ 64; omega)]; rfl
        generalize over zeros 0 (ri.take m) = L at *
        have c0 := HBUF.out.cell 0 (by rw [hLl]; decide)
        have c60 := HBUF.out.cell 60 (by rw [hLl]; decide)
        have hrow := HBUF.out.row
        have s1 := fun W => slice_mid W (some ⟨y, 0, none⟩) 64 64 1 4 (by decide) (by decide)
        have s61 := fun W => slice_from W (some ⟨y, 0, none⟩) 64 64 61 (by decide)
        have r1 := row_drop (row_take hrow 4) 1 64 (by rw [List.length_take, hLl]; decide)
        have r61 := row_drop hrow 61 64 (by rw [hLl]; decide)
        have v1 := str_any W1 _ _ 3 63 (by rw [List.length_drop, List.length_take, hLl]; decide) r1
        have v61 := str_any W1 _ _ 3 3 (by rw [List.length_drop, hLl]) r61
        rw [fromA_some (by decide)] at s1 s61 v1 v61
        have x1 := strs_same ((L.take 4).drop 1) [0, 0, 0] r1.1 (by decide)
        have x61 := strs_same (L.drop 61) [0, 0, 0] r61.1 (by decide)
        rw [hz000] at x1 x61
        have HLL := hid hLl
        have HR1 := hid r1
        obtain ⟨A, hA⟩ : ∃ A, L.getD 0 0 = A := ⟨_, rfl⟩
        obtain ⟨C, hC⟩ : ∃ C, L.getD 60 0 = C := ⟨_, rfl⟩
        rw [hA] at c0
        rw [hC] at c60
        have HAC := hid (And.intro hA hC)
        have hA2 : A < 256 := by rw [← hA]; exact getD_lt HBUF.out.2 0
        have hC2 : C < 256 := by rw [← hC]; exact getD_lt HBUF.out.2 60
        obtain ⟨S1, hS1⟩ : ∃ S, strOf ((L.take 4).drop 1) = S := ⟨_, rfl⟩
        obtain ⟨S2, hS2⟩ : ∃ S, strOf (L.drop 61) = S := ⟨_, rfl⟩
        rw [hS1] at v1 x1
        rw [hS2] at v61 x61
        clear hrow r1 r61 hLl hA hC hS1 hS2 hbW HW0 HS1 HS2 HRW HLM HRUN HD0 H0 hst hmn1 hmn2 hmk
        by_cases g1 : 6 < A
        · have g1' : 6 < (A : Int) := by omega
          clear x1 x61
          go_wp2_with fail
          go_ret
          exact ⟨rfl, HBW2.out⟩
        · have g1' : ¬ 6 < (A : Int) := by omega
          by_cases g2 : 6 < C
          · have g2' : 6 < (C : Int) := by omega
            clear x1 x61
            go_wp2_with fail
            go_ret
            exact ⟨rfl, HBW2.out⟩
          · have g2' : ¬ 6 < (C : Int) := by omega
            by_cases e1 : (L.take 4).drop 1 = [0, 0, 0]
            · rw [decide_eq_true e1] at x1
              have t1 : S1.toList = [0, 0, 0] := by simpa using x1
              by_cases e2 : L.drop 61 = [0, 0, 0]
              · rw [decide_eq_true e2] at x61
                have t2 : S2.toList = [0, 0, 0] := by simpa using x61
                have hO : Old L := old_over HLL.out (by omega : A ≤ 6) (by omega : C ≤ 6) HAC.out.1 HAC.out.2 (by rw [← e1, List.drop_take]) e2
                have HO := hid hO
                obtain ⟨J, hJ⟩ : ∃ J, 8 + i = J := ⟨_, rfl⟩
                have hJI : (8 : Int) + (i : Int) = (J : Int) := by omega
                obtain ⟨hd, hsp, hdead, hfuse, hlen, hops, hold, _⟩ := HX.out
                have hdW := hd.below HBW.out
                have hspW := hsp.below HBW.out
                have HWR := hid (write_wr (i := J) hdW hdead hfuse (by rw [hlen]; omega) (by omega) HBUF.out HLL.out)
                have HX2 := hid (And.intro hspW (And.intro hdead (And.intro hfuse (And.intro hlen (And.intro hops hold)))))
                have HDT := hid hdW.tag
                clear hd hsp hdead hfuse hlen hops hold hdW hspW e1 e2 x1 x61 hO
                go_wp2_with fail
                refine HWR.out.mono ?_
                rintro e w9 ⟨rfl, hd9, hb9⟩
                obtain ⟨hspW, hdead, hfuse, hlen, hops, hold⟩ := HX2.out
                have hsp9 := hspW.but hb9 (fun e => by rcases e with e | e; exact hspW.tag.ne HDT.out.1 (by decide) e; exact hspW.tag.ne HDT.out.2 (by decide) e)
                have HN9 := hid (And.intro hd9 (And.intro hsp9 (And.intro (wr_read L (by rw [hlen]; omega : J < d.secs.length) hold HO.out) (below_tr' HBW2.out (hb9.below (base := w.heap.size) (fun j e => by rcases e with rfl | rfl <;> omega) HBW2.out.size)))))
                have HN8 := hid (And.intro hdead (And.intro hfuse (And.intro hlen hops)))
                clear hspW hdead hfuse hlen hops hold hsp9 hd9 hb9 HX2 HWR
                go_wp2_with fail
                go_roundg (gk - 1)
                case measure => have := HI.out; omega
                case rel =>
                  refine ⟨i + 1, d.wr J L, by have := HI.out; omega, by go_num, HN9.out.1, HN9.out.2.1, HN8.out.1, HN8.out.2.1, ?_, ?_, HN9.out.2.2.1, HN9.out.2.2.2⟩
                  · simp only [Dk.wr, List.length_set]; exact HN8.out.2.2.1
                  · show d.ops + 1 ≤ i + 1
                    have := HN8.out.2.2.2
                    omega
              · rw [decide_eq_false e2] at x61
                have t2 : ¬ S2.toList = [0, 0, 0] := by simpa using x61
                clear x1 e1 e2
                go_wp2_with fail
                go_ret
                exact ⟨rfl, HBW2.out⟩
            · rw [decide_eq_false e1] at x1
              have t1 : ¬ S1.toList = [0, 0, 0] := by simpa using x1
              clear x61 e1
              go_wp2_with fail
              go_ret
              exact ⟨rfl, HBW2.out⟩
      · have hlt' : ¬ (i : Int) < (n0 : Int) := by omega
        clear HG HCAP
        obtain ⟨hd, hsp, hdead, hfuse, hlen, hops, hold, hb⟩ := HX.out
        have HFL := hid (flush_any hd (by have := HI.out; omega))
        rw [flush_free hdead hfuse] at HFL
        have HT := hid hd.tag
        have HXX := hid (And.intro hsp (And.intro hdead (And.intro hfuse (And.intro hlen (And.intro hops (And.intro hold hb))))))
        have HSPT := hid hsp.tag
        clear hd hsp hdead hfuse hlen hops hold hb HX
        go_wp2_with fail
        refine HFL.out.mono ?_
        rintro e w6 ⟨rfl, hd6, ho6⟩
        obtain ⟨hsp, hdead, hfuse, hlen, hops, hold, hb⟩ := HXX.out
        have hb6 : But (fun j => j = q ∨ j = p) wr w6 := ho6.but.mono (fun k e => .inl (by rcases e with e | e; exact .inl e; exact .inr (by simpa using e)))
        have hsp6 := hsp.but hb6 (fun e => by rcases e with e | e; exact HSPT.out.ne HT.out.1 (by decide) e; exact HSPT.out.ne HT.out.2 (by decide) e)
        have hd6' : DiskAt w6 q p d.flushed := hd6
        have hB6 := below_tr' hb (hb6.below (base := w.heap.size) (fun j e => by rcases e with rfl | rfl <;> omega) hb.size)
        have hold6 : ∀ j, Old (d.flushed.read j) := fun j => by rw [flushed_read]; exact hold j
        have hlen6 : d.flushed.secs.length = 776 := by rw [← hlen]; simp [Dk.flushed]
        have hops6 : d.flushed.ops ≤ i + 1 := by show d.ops + 1 ≤ _; omega
        have hf6 : d.flushed.fuse = none := hfuse
        have hdd6 : d.flushed.dead = false := hdead
        have HC6 := hid (flushed_calm d)
        have HX6 := hid (And.intro hd6' (And.intro hsp6 (And.intro hB6 (And.intro hold6 (And.intro hlen6 (And.intro hops6 (And.intro hf6 hdd6)))))))
        clear hsp hdead hfuse hlen hops hold hb hd6 ho6 hb6 hsp6 hd6' hB6 hold6 hlen6 hops6 hf6 hdd6 HXX HFL HT HSPT
        generalize d.flushed = d1 at *
        go_wp2_with fail
        refine (lnew_any w6 q).mono ?_
        rintro e w7 ⟨g, rfl, hl7, hb7, hg7⟩
        obtain ⟨hd6, hsp6, hB6, hold6, hlen6, hops6, hf6, hdd6⟩ := HX6.out
        have hB7 := below_tr hB6 hb7 hB6.size
        have hsp7 := hsp6.below hb7
        rw [← Sp.upTo_zero] at hsp7
        have hsy : Lsys w7 g q p x d1 96 0 [] 0 0 0 := ⟨hl7, hd6.below hb7, hsp7, hdd6, hf6, by rw [hlen6]; decide, by decide, by simp, by simp, by simp⟩
        have hmay : MayBe 7 l1 := ⟨by have := H1.out.1; omega, by have := H1.out.1; omega, by decide, by decide⟩
        have HAP := hid (append_yes hsy 7 a1 l1 n1 c1 H1.out.1 (H1.out.2.below hB7) hmay (by have := HI.out; omega))
        rw [show (((7 : Nat) : Int)) = 7 from rfl] at HAP
        have HB7 := hid hB7
        have HX7 := hid (And.intro hold6 (And.intro hlen6 hops6))
        have hg2 : w.heap.size ≤ g := Nat.le_trans hB6.size hg7
        clear hd6 hsp6 hB6 hold6 hlen6 hops6 hf6 hdd6 hB7 hsp7 hsy hl7 hb7 hg7 hmay HX6
        go_wp2_with fail
        refine HAP.out.mono ?_
        intro e w8 hap
        unfold Appended at hap
        have hseg : segsN (0 + secsN l1) ≤ ([] : List Nat).length + (96 - 0) := by
          have := H1.out.1
          unfold segsN secsN cnt
          simp
          omega
        rw [if_pos hseg] at hap
        obtain ⟨rfl, hsy, hb8⟩ := hap
        obtain ⟨zt, hzt⟩ : ∃ zt, segsN (0 + secsN l1) - ([] : List Nat).length = zt := ⟨_, rfl⟩
        rw [hzt] at hsy
        have hB8 := below_tr' HB7.out (hb8.below (base := w.heap.size) (fun j e => by rcases e with rfl | rfl | rfl | rfl <;> omega) HB7.out.size)
        obtain ⟨sg, hsg⟩ : ∃ sg, [] ++ List.range' 0 zt = sg := ⟨_, rfl⟩
        have hndp : sg.Nodup := by rw [← hsg, List.nil_append]; exact List.nodup_range'
        have hsl : sg.length = zt := by rw [← hsg]; simp
        have hfit : cnt (l1.length + 16) ≤ 8 * sg.length := by
          rw [hsl, ← hzt]
          unfold segsN secsN
          simp
          omega
        rw [hsg] at hsy
        obtain ⟨hold6, hlen6, hops6⟩ := HX7.out
        have hHas : Has d1 sg := fun s hs => by
          have h8 := hsy.has s hs
          rw [(lays_facts _ _ _ _).2.2.1] at h8
          exact h8
        obtain ⟨t1, t2⟩ := over_facts (c := l2) HC6.out hndp hHas hold6 hfit
        have HT1 := hid (And.intro t1 t2)
        have HDL := hid (lays_facts d1 sg 0 (secsOf 0 7 (mk 0 7 l1))).2.2.1
        have HCR := hid (crash_any hsy.disk a2 l2 n2 c2 (H2.out.2.below hB8) H2.out.1 (by omega))
        have HX8 := hid (And.intro hsy.log (And.intro hB8 (And.intro hHas hfit)))
        have hz96 : zt ≤ 96 := by rw [← hsl]; exact hsy.log.len
        have HSL := hid hsl
        clear hseg hsy hb8 hB8 hsg hndp hsl hfit hold6 hlen6 hops6 hHas t1 t2 HAP HB7 HX7 HC6 hzt
        generalize lays d1 sg 0 (secsOf 0 7 (mk 0 7 l1)) = d2 at *
        go_wp2_with fail
        refine HCR.out.mono ?_
        rintro e w10 ⟨q', rfl, p', hd10, hb10, hq', hp'⟩
        obtain ⟨hl8, hB8, hHas, hfit⟩ := HX8.out
        have HWH := hid (where_any (hl8.below hb10))
        have HX10 := hid (And.intro hd10 (And.intro (below_tr hB8 hb10 hB8.size) (And.intro hHas hfit)))
        rw [HSL.out] at HWH
        clear hl8 hB8 hHas hfit hd10 hb10 HX8 HCR
        obtain ⟨u1, hu1⟩ : ∃ u1, 0 + secsN l1 = u1 := ⟨_, rfl⟩
        obtain ⟨u2, hu2⟩ : ∃ u2, nx 0 l1 = u2 := ⟨_, rfl⟩
        rw [hu1, hu2] at HWH
        clear hu1 hu2
        go_wp2_with fail
        refine HWH.out.mono ?_
        rintro e w11 ⟨a11, c11, rfl, hsr11, _, _, hz11, hb11⟩
        obtain ⟨hd10, hB10, hHas, hfit⟩ := HX10.out
        have hfd := field36s w11 a11 zt c11 (u1 : Int) (u2 : Int)
        have HLO := hid (load_any (hd10.below hb11) (show (d2.crash l2).dead = false from rfl) sg a11 zt c11 0 0 HSL.out hsr11.irow (fun s hs => by rw [show (d2.crash l2).secs.length = d2.secs.length by simp [Dk.crash, crashL], HDL.out]; exact hHas s hs) hz96 hz11)
        have HX11 := hid (And.intro (hd10.below hb11) (And.intro (below_tr hB10 hb11 hB10.size) (And.intro hHas hfit)))
        clear hd10 hB10 hHas hfit hb11 hsr11 hz11 HX10 HWH
        go_wp2_with fail
        refine HLO.out.mono ?_
        rintro e w13 ⟨hb13, hld⟩
        have hsc : scan (fun _ _ => true) (pl (d2.crash l2) sg) 0 0 0 0 0 = [] := rfl
        rw [hsc] at hld
        rcases hld with ⟨_, _, _, g6, v6, rfl, hg6, hl6, base, hbase, hre6⟩ | ⟨hno, _⟩
        · obtain ⟨hd11, hB11, hHas, hfit⟩ := HX11.out
          obtain ⟨a6, c6, rfl⟩ := hre6.slice
          rw [show (([] : List (Nat × List Nat)).map (·.2)).length = 0 from rfl]
          have hl6' : LogAt w13 g6 q' sg 0 0 0 := hl6
          have HMO := hid (more_any hl6' (hd11.below hb13) (show (d2.crash l2).dead = false from rfl) (fun s hs => by rw [show (d2.crash l2).secs.length = d2.secs.length by simp [Dk.crash, crashL], HDL.out]; exact hHas s hs) 7 (8 * sg.length - 0) rfl)
          have HB13 := hid (below_tr hB11 hb13 hB11.size)
          have hg6' : w.heap.size ≤ g6 := Nat.le_trans hB11.size hg6
          have HTM := hid (over_more (D := pl (d2.crash l2) sg) (k := 8 * sg.length - 0) (last := 0) (lb := 0) (n := 0) (m := 8 * sg.length - 0) (r := l1) (fits := mfits 7) (by rw [H1.out.1]; exact hn1) (by rw [H1.out.1]; omega) H1.out.2.1 (fun lb b h => by unfold mfits at h; simp at h; omega) hfit HT1.out.1 (fun i h1 h2 => HT1.out.2 i h1 (by omega)))
          clear hd11 hB11 hHas hfit hre6 hl6 hl6' hb13 HX11 HLO hfd HT1 hsc hbase hg6
          generalize scan (mfits 7) (pl (d2.crash l2) sg) (8 * sg.length - 0) 0 0 0 (8 * sg.length - 0) = RS at *
          go_wp2_with fail
          refine HMO.out.mono ?_
          rintro e w15 ⟨v15, rfl, hre15, _, hb15⟩
          have HB15 := hid (below_tr' HB13.out (hb15.below (base := w.heap.size) (fun k e => by omega) HB13.out.size))
          obtain ⟨a15, c15, rfl⟩ := hre15.slice
          have hgr15 := hre15.grid.2
          clear hre15 hb15 HMO HB13
          rcases HTM.out with hR | hR
          · rw [hR]
            clear hgr15 HTM
            simp only [List.map_nil, List.length_nil]
            go_wp2_with fail
            go_quiet (fail)
            go_wp2_with fail
            go_ret
            exact ⟨rfl, to_drewN HB15.out _⟩
          · rw [hR] at hgr15 ⊢
            simp only [List.map_cons, List.map_nil, List.length_cons, List.length_nil] at hgr15 ⊢
            obtain ⟨bq, oq, rfl, hcq⟩ := hgr15.at_ (by simp)
            obtain ⟨aq, cq, hcq0, hrq⟩ := hcq 0 (by simp)
            simp only [List.getD_cons_zero, Nat.add_zero] at hcq0 hrq
            rw [H1.out.1] at hcq0
            have hr15 := H1.out.2.below HB15.out
            have cv1 : ∀ m, (convert 42 9 (.slice aq n1 cq)).run Try.prog (w15.drewN m) = .ok (.string (strOf l1)) (w15.drewN m) := fun m => str_any _ _ _ _ _ H1.out.1 ⟨hrq.1, hrq.2⟩
            have cv2 : ∀ m, (convert 42 9 (.slice a1 n1 c1)).run Try.prog (w15.drewN m) = .ok (.string (strOf l1)) (w15.drewN m) := fun m => str_any _ _ _ _ _ H1.out.1 ⟨hr15.1, hr15.2⟩
            clear hgr15 hcq hrq hr15 HTM
            generalize strOf l1 = SX at *
            have hss : (SX.toList == SX.toList) = true := by simp
            go_wp2_with fail
            go_quiet (fail)
            go_wp2_with fail
            go_ret
            exact ⟨rfl, to_drewN HB15.out _⟩
        · exact absurd ⟨Nat.zero_le _, rfl, rfl⟩ hno
  · go_enter Try.func4, Try.ntmps4
    go_wp2_with fail
    refine (awake_any w).mono ?_
    rintro e w2 ⟨rfl, hb2⟩
    go_wp2_with fail
    all_goals first
      | (go_ret; exact ⟨rfl, hb2⟩)
      | (exfalso; omega)
end Go.Proofs.Yteohjfhflodklab
