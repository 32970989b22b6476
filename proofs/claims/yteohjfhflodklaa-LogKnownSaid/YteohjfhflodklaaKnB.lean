/- Append's own write on a disk whose fuse has burnt down: it is left at once, and the disk is dead. No condition. -/
import Derived.Test.YteohjfhflodklaaKnA
namespace Go.Proofs.Yteohjfhflodklaa
open Go.RowKit Pen
open Crc (four nx run)
set_option maxRecDepth 4000
set_option linter.unusedVariables false
attribute [local go_sem] Oper.semAt_some
def gone (d : Dk) : Dk := { d with dead := true }
/-- How it stands where the range was left. -/
def Gone (w : World) (q p B6 : Nat) (d : Dk) (W : World) : Prop := DiskAt W q p (gone d) ∧ W.heap[B6]? = some (.cells #[.int .i64 15] 26 (0, 0)) ∧ But (fun k => k = q ∨ k = p) w W ∧ B6 < W.heap.size
theorem Gone.but {S : Nat → Prop} {w : World} {q p B6 : Nat} {d : Dk} {W W' : World} (h : Gone w q p B6 d W) (hb : But S W W') (hs : ∀ k, S k → w.heap.size ≤ k ∧ ¬ ∃ t, Tag W k t) : Gone w q p B6 d W' := by
  obtain ⟨h1, h2, h3, h4⟩ := h
  have hk : ∀ {k : Nat} {c : Array Value} {t : TypeId}, W.heap[k]? = some (.cells c t (0, 0)) → W'.heap[k]? = some (.cells c t (0, 0)) := fun {k c t} e => (hb.block k (Array.getElem?_eq_some_iff.1 e).1 fun e2 => (hs k e2).2 ⟨t, c, e⟩).trans e
  exact ⟨h1.but hb (fun e => (hs _ e).2 ⟨_, h1.tag.1⟩) (fun e => (hs _ e).2 ⟨_, h1.tag.2⟩), hk h2, h3.trans hb (fun k e => .inr (hs k e).1), Nat.lt_of_lt_of_le h4 hb.size⟩
/-- A sector is written onto a disk whose fuse has burnt down. -/
theorem write_gone {w : World} {q p i : Nat} {d : Dk} (h : DiskAt w q p d) (hdead : d.dead = false) (hf : d.fuse = some 0) (hi : i < d.secs.length) (hops : d.ops < 1000000000) {g : Nat} {l : List Nat} (hb : Buf w g l) (hl : l.length = 64) :
    Calls Try.prog 51 #[.pointer (some ⟨q, 0, none⟩), .int .i64 (i : Int), .slice (some ⟨g, 0, none⟩) 64 64] w fun e w' => e = .returned (.int .i64 15) ∧ DiskAt w' q p (gone d) ∧ But (fun k => k = q ∨ k = p) w w' := by
  have := write_any h hops (z := (i : Int)) (a := some ⟨g, 0, none⟩) (b := l) (n := 64) (cap := 64) (hb.row) hl
  have e : d.write (i : Int) l = (gone d, 15) := by
    unfold Dk.write
    have h1 : d.has (i : Int) = true := by unfold Dk.has; simp; omega
    have h2 : d.may = false := by unfold Dk.may; rw [hf]; rfl
    have h3 : d.spent = gone d := by cases d; simp only at hf; subst hf; rfl
    rw [hdead, if_neg (by decide), if_neg (fun e => by rcases e with e | e; rw [h1] at e; cases e; exact e hl), if_pos h2, h3]
  refine this.mono ?_
  rintro r w' ⟨rfl, h2, h3⟩
  rw [e] at h2 ⊢
  exact ⟨rfl, h2, h3.but.mono (fun k e => .inl (by rcases e with e | e; exact .inl e; exact .inr (by simpa using e)))⟩
set_option maxRecDepth 100000 in
set_option maxHeartbeats 4000000 in
theorem lwrite_dead {w : World} {g q p e last boot : Nat} {d : Dk} {segs : List Nat} (h : LogAt w g q segs e last boot) (hd : DiskAt w q p d) (hdead : d.dead = false) (hf : d.fuse = some 0) (hs : Has d segs) (he : e ≤ 8 * segs.length) (b off m cap : Nat) (f : List Nat)
    (hr : Row w (some ⟨b, off, none⟩) f) (hm : f.length = m) (hmc : m ≤ cap) (hm1 : m ≤ 1000000) (n : Nat) (hn : n + cnt m = e) (hops : d.ops ≤ 1000000) (hbq : b ≠ q ∧ b ≠ p) (hm0 : 1 ≤ m) :
    Calls Try.prog 33 #[.pointer (some ⟨g, 0, none⟩), .slice (some ⟨b, off, none⟩) m cap, .int .i64 (n : Int)] w fun r w' => r = .returned (.int .i64 15) ∧ DiskAt w' q p (gone d) ∧ But (fun k => k = q ∨ k = p) w w' := by
  have hlen := h.len
  have hg := h.glt
  have hW0b : Below w.heap.size w ((w.alloc (.cells #[.pointer (some ⟨g, 0, none⟩)] 31)).alloc (.cells #[.int .i64 0] 26)) := ((Below.refl _ w).alloc (Nat.le_refl _) _).alloc (by simp) _
  have h3 : ((w.alloc (.cells #[.pointer (some ⟨g, 0, none⟩)] 31)).alloc (.cells #[.int .i64 0] 26)).heap[w.heap.size]? = some (.cells #[.pointer (some ⟨g, 0, none⟩)] 31 (0, 0)) := by
    have h1 := heap_alloc_new w (.cells #[.pointer (some ⟨g, 0, none⟩)] 31)
    exact (((Below.refl _ (w.alloc (.cells #[.pointer (some ⟨g, 0, none⟩)] 31))).alloc (Nat.le_refl _) (.cells #[.int .i64 0] 26)).block w.heap.size (by simp)).trans h1
  have h6 : ((w.alloc (.cells #[.pointer (some ⟨g, 0, none⟩)] 31)).alloc (.cells #[.int .i64 0] 26)).heap[w.heap.size + 1]? = some (.cells #[.int .i64 0] 26 (0, 0)) := by
    have h1 := heap_alloc_new (w.alloc (.cells #[.pointer (some ⟨g, 0, none⟩)] 31)) (.cells #[.int .i64 0] 26)
    rwa [show (w.alloc (.cells #[.pointer (some ⟨g, 0, none⟩)] 31)).heap.size = w.heap.size + 1 by simp] at h1
  have hsz0 : ((w.alloc (.cells #[.pointer (some ⟨g, 0, none⟩)] 31)).alloc (.cells #[.int .i64 0] 26)).heap.size = w.heap.size + 2 := by simp
  have HL := hid h
  have HD := hid hd
  have HDE := hid hdead
  have HFU := hid hf
  have HS := hid hs
  have HR := hid hr
  have HM := hid hm
  have HW0 := hid hW0b
  have H3 := hid h3
  have H6 := hid h6
  have HN := hid hn
  clear h hd hdead hf hs hr hm hW0b h3 h6
  refine (callsIn_wide (n := 3)).1 ?_
  refine callsIn_of_wp_marks Try.func33 rfl trivial ?_ rfl
  simp only [Try.ntmps33, List.size_toArray, List.length_cons, List.length_nil, Nat.reduceAdd, Nat.reduceSub, Array.replicate_succ, Array.replicate_zero, List.push_toArray, List.append_toArray, List.nil_append, List.cons_append]
  refine Go.wpIn_mono (Q := calm _) ?_ calm_out
  refine wpIn_wide.2 ?_
  go_wp2_with fail
  generalize (w.alloc (.cells #[.pointer (some ⟨g, 0, none⟩)] 31)).alloc (.cells #[.int .i64 0] 26) = W0 at *
  go_loopg [7] (cnt m) (fun gk v7 wr => ∃ i : Nat, i + gk = cnt m ∧ v7 = .int .i64 ((n + i : Nat) : Int) ∧ Below W0.heap.size W0 wr)
  case atStart => exact ⟨0, by omega, rfl, Below.refl _ _⟩
  case round =>
    obtain ⟨i, hi, rfl, hb⟩ := hrel
    have hB := below_tr HW0.out hb (by omega)
    have hL1 := HL.out.below hB
    have hD1 := HD.out.below hB
    have h3r := (hb.block w.heap.size (by omega)).trans H3.out
    have c3 : wr.cell? ⟨w.heap.size, 0, none⟩ = some (.pointer (some ⟨g, 0, none⟩)) := by rw [cell_of_row wr _ 0 _ 31 (0, 0) h3r]; rfl
    have c2 := hL1.c2
    have c0 := hL1.c0
    by_cases hlt : i < cnt m
    · have hle : n + i < 8 * segs.length := by omega
      have hlt' : ((n + i : Nat) : Int) < (e : Int) := by omega
      have HL1 := hid (hL1.below (Below.drew (Below.refl _ wr)))
      have HD1 := hid (hD1.below (Below.drew (Below.refl _ wr)))
      have HB := hid hb
      have hnum := num_lt HS.out hle
      have hbs := hb.size
      generalize hN : n + i = N at *
      clear hb hL1 hD1 hB h3r
      go_wp2_with fail
      go_region_held (fun W => W.cell? ⟨w.heap.size, 0, none⟩ = some (.pointer (some ⟨g, 0, none⟩)) ∧ W.cell? ⟨g, 0, none⟩ = some (.pointer (some ⟨q, 0, none⟩))) (first | exact ⟨c3, c0⟩ | exact S2.out) (first
        | (go_at_call 49; refine (number_at HL1.out N (by omega)).mono ?_; rintro r w1 ⟨rfl, rfl⟩)
        | (go_at_call 23; refine (read_ok HD1.out HDE.out hnum).mono ?_; rintro r w2 ⟨y, rfl, hbuf, hb2, hy⟩
           have hb2 : Below wr.heap.size wr w2 := below_of_drew hb2
           have S2 := hid (show w2.cell? ⟨w.heap.size, 0, none⟩ = some (.pointer (some ⟨g, 0, none⟩)) ∧ w2.cell? ⟨g, 0, none⟩ = some (.pointer (some ⟨q, 0, none⟩)) from ⟨(hb2.cell (p := ⟨w.heap.size, 0, none⟩) (show w.heap.size < _ by omega)).trans c3, (hb2.cell (p := ⟨g, 0, none⟩) (show g < _ by omega)).trans c0⟩)
           have HB2 := hid (below_tr HB.out hb2 hbs)
           clear hbuf hb2))
      go_wp2_with fail
      go_roundg (gk - 1)
      case measure => omega
      case rel => exact ⟨i + 1, by omega, by first | go_num | (rw [← hN]; go_num), HB2.out⟩
    · have hlt' : ¬ ((n + i : Nat) : Int) < (e : Int) := by omega
      have hic : i = cnt m := by omega
      have H3r := hid h3r
      have HB := hid hb
      have H6r := hid ((hb.block (w.heap.size + 1) (by omega)).trans H6.out)
      have hbs := hb.size
      have HDr := hid hD1
      have HBr := hid hB
      clear hb hL1 hD1 hB h3r hi
      generalize hN : n + i = N at *
      go_wp2_with fail
      refine (chunk_any _ _ m cap).mono ?_
      rintro r w5 ⟨rfl, rfl⟩
      go_wp2_with fail
      have hal : Below wr.heap.size wr (((wr.alloc (.cells #[.int .i64 (n : Int)] 3)).alloc (.cells #[.slice (some ⟨b, off, none⟩) m cap] 40)).alloc (.cells #[.int .i64 54] 3)) := (((Below.refl _ wr).alloc (Nat.le_refl _) _).alloc (by simp) _).alloc (by simp; omega) _
      obtain ⟨k10, ky, kz⟩ := alloc3 wr (.cells #[.int .i64 (n : Int)] 3) (.cells #[.slice (some ⟨b, off, none⟩) m cap] 40) (.cells #[.int .i64 54] 3)
      have ksz : (((wr.alloc (.cells #[.int .i64 (n : Int)] 3)).alloc (.cells #[.slice (some ⟨b, off, none⟩) m cap] 40)).alloc (.cells #[.int .i64 54] 3)).heap.size = wr.heap.size + 3 := by simp
      have HM0 : Hid (Mid w q p w.heap.size (w.heap.size + 1) wr.heap.size g d segs boot n f [] (((wr.alloc (.cells #[.int .i64 (n : Int)] 3)).alloc (.cells #[.slice (some ⟨b, off, none⟩) m cap] 40)).alloc (.cells #[.int .i64 54] 3))) :=
        ⟨HDr.out.below hal, k10, (hal.block _ (by omega)).trans H3r.out, (hal.block _ (by omega)).trans H6r.out, below_but _ (below_tr HBr.out hal (by omega)), by omega⟩
      generalize ((wr.alloc (.cells #[.int .i64 (n : Int)] 3)).alloc (.cells #[.slice (some ⟨b, off, none⟩) m cap] 40)).alloc (.cells #[.int .i64 54] 3) = WL at *
      have cy : WL.cell? ⟨wr.heap.size + 1, 0, none⟩ = some (.slice (some ⟨b, off, none⟩) m cap) := by rw [cell_of_row WL _ 0 _ 40 (0, 0) ky]; rfl
      have cz : WL.cell? ⟨wr.heap.size + 1 + 1, 0, none⟩ = some (.int .i64 54) := by rw [cell_of_row WL _ 0 _ 3 (0, 0) kz]; rfl
      have hwl : w.heap.size + 2 ≤ wr.heap.size := by omega
      have HFN := hid hm1
      refine (wpIn_wide (n := 3)).1 ?_
      refine wpIn_rangeFunc_ownF (n := 3) rfl (by decide) (gf := 60) (lb := #[.pointer (some ⟨wr.heap.size + 1, 0, none⟩), .pointer (some ⟨wr.heap.size + 1 + 1, 0, none⟩)]) rfl trivial call60 (encs := fun x => #[chunkV b off m x]) (Kp := Boxes (wr.heap.size + 1) (wr.heap.size + 1 + 1)) (S := fun ys => ys = List.range (cnt m)) (Sp := fun _ => True) (N := cnt m) (w0 := WL)
        (fun l J Jx W hW hJ _ hY h0 => chunk1_in 2 (by decide) l _ _ b off m cap hm1 hmc J Jx hY W ((hW.cell (p := ⟨wr.heap.size + 1, 0, none⟩) (show wr.heap.size + 1 < _ by omega)).trans cy) ((hW.cell (p := ⟨wr.heap.size + 1 + 1, 0, none⟩) (show wr.heap.size + 1 + 1 < _ by omega)).trans cz) h0 hJ)
        (fun h k => ⟨k.1.trans h.1, k.2.trans h.2⟩)
        (fun W l o o' hl _ _ _ => ⟨by simp only [World.cell?, World.putObj_heap_other (show wr.heap.size + 1 ≠ l by omega)], by simp only [World.cell?, World.putObj_heap_other (show wr.heap.size + 1 + 1 ≠ l by omega)]⟩)
        (Below.refl _ _) (fun _ => rfl) (fun pre W => pre = [] ∧ Mid w q p w.heap.size (w.heap.size + 1) wr.heap.size g d segs boot n f [] W) (fun c _ W => c = .ret ∧ Gone w q p (w.heap.size + 1) d W)
        (fun s W W' row hs hgr hro => And.intro hs.1 (hs.2.but (S := fun k => row = some k) ⟨hgr.os, hgr.tape, hgr.output, hgr.size, fun k hk hn => hgr.block k hk (fun e => hn e.symm)⟩ (fun k e => ⟨by have := (hro k e).1; omega, fun ⟨t, c, ht⟩ => by obtain ⟨o, ho, hc⟩ := (hro k e).2; rw [ht] at ho; cases ho; simp [Obj.isCells] at hc⟩)))
        (fun c s W W' row hs hgr hro => And.intro hs.1 (hs.2.but (S := fun k => row = some k) ⟨hgr.os, hgr.tape, hgr.output, hgr.size, fun k hk hn => hgr.block k hk (fun e => hn e.symm)⟩ (fun k e => ⟨by have := (hro k e).1; omega, fun ⟨t, c, ht⟩ => by obtain ⟨o, ho, hc⟩ := (hro k e).2; rw [ht] at ho; cases ho; simp [Obj.isCells] at hc⟩))) ⟨rfl, HM0.out⟩ (fun x => { tmps := #[.pointer (some ⟨g, 0, none⟩), .slice (some ⟨b, off, none⟩) m cap, .int .i64 (n : Int), .pointer (some ⟨w.heap.size, 0, none⟩), undef, undef, .pointer (some ⟨w.heap.size + 1, 0, none⟩), .int .i64 (N : Int), u8, u9, .pointer (some ⟨wr.heap.size, 0, none⟩), chunkV b off m x, undef, .int .i64 (n : Int), .int .i64 (N : Int), .pointer (some ⟨g, 0, none⟩), .pointer (some ⟨g, 0, none⟩), .pointer (some ⟨g, 2, none⟩), .int .i64 (e : Int), .bool false, u20, u21, u22, u23, u24, u25, u26, u27, u28, u29, u30, u31, u32, u33, u34, u35, .int .i64 (n : Int), .slice (some ⟨b, off, none⟩) m cap, .func (.func 60) #[] #[.pointer (some ⟨wr.heap.size + 1, 0, none⟩), .pointer (some ⟨wr.heap.size + 1 + 1, 0, none⟩)], chunkV b off m x, undef, undef, undef, undef, undef, undef, undef, undef, undef, undef, undef, undef, undef, undef, undef, undef, undef, undef, undef, undef], defers := [] }) ?assign ?body ?done ?stop
      case assign =>
        intro l x W K hK
        gi_wp2
        exact hK
      case stop =>
        rintro D c pre W hD _ ⟨rfl, hDf, h6f, hBf, hsf⟩ hK
        have hDne : ∀ {k : Nat} {t : TypeId}, Tag W k t → k ≠ D := fun {k t} ⟨c, h⟩ e => by rw [e, hK] at h; cases h
        have hDne2 := hDne hDf.tag.1
        have hDne3 := hDne hDf.tag.2
        have HF1 := hid hDf
        have HF2 := hid hBf
        have HDD := hid (And.intro hDne2 (And.intro hDne3 hD))
        have hb9 : But (fun k => k = D) W (W.putObj D (.deferred none)) := grown_but _ (grownBy_putObj' _ D _) (fun k e => by cases e; rfl)
        have h6h := (hb9.block (w.heap.size + 1) (Array.getElem?_eq_some_iff.1 h6f).1 (fun e => hDne ⟨_, h6f⟩ e)).trans h6f
        have c6h : (W.putObj D (.deferred none)).cell? ⟨w.heap.size + 1, 0, none⟩ = some (.int .i64 15) := by rw [cell_of_row _ _ 0 _ 26 (0, 0) h6h]; rfl
        have hDz : w.heap.size ≤ D := by have := HDD.out.2.2; omega
        gi_wp2
        refine ⟨by simp, .inl ⟨_, _, rfl, run_takeDeferred hK, ?_⟩⟩
        refine ⟨.int .i64 15, by simp [results, Try.results33, go_sem, c6h], rfl, HF1.out.but hb9 (fun e => HDD.out.1 e) (fun e => HDD.out.2.1 e), HF2.out.trans hb9 (fun k e => .inr (by subst e; exact hDz))⟩
      case done =>
        rintro D xs W hD hxs ⟨hx0, _⟩ hK
        have : 0 < cnt m := by unfold cnt; omega
        rw [hx0] at hxs
        have e := congrArg List.length hxs
        simp at e
        omega
      case body =>
        rintro l pre x W ⟨hpre, hmid⟩ hlt
        subst hpre
        obtain ⟨hDm, h10, h3m, h6m, hBm, hsm⟩ := hmid
        have htag := HD.out.tag
        have hLm := HL.out.but hBm (noInts_of (fun k e => by rcases e with rfl | rfl; exact ⟨66, htag.1, by decide⟩; exact ⟨86, htag.2, by decide⟩)) (fun e => by rcases e with e | e; exact HL.out.tag.ne htag.1 (by decide) e; exact HL.out.tag.ne htag.2 (by decide) e)
        have hRm := HR.out.but hBm (fun v e => by simp at e; subst e; exact fun e => by rcases e with e | e; exact hbq.1 e; exact hbq.2 e)
        obtain ⟨hcl, hcr⟩ := chunk_row hRm x
        rw [HM.out] at hcl
        obtain ⟨PL, hPL⟩ : ∃ PL, n + ([] : List Nat).length = PL := ⟨_, rfl⟩
        rw [hPL] at h10
        have hnum8 : PL / 8 < segs.length := by have := HN.out; omega
        have hDm : DiskAt W q p d := hDm
        have hnlt := num_lt HS.out (show PL < 8 * segs.length by have := HN.out; omega)
        have hcm : cnt m ≤ 20000 := by unfold cnt; omega
        have c3 : W.cell? ⟨w.heap.size, 0, none⟩ = some (.pointer (some ⟨g, 0, none⟩)) := by rw [cell_of_row W _ 0 _ 31 (0, 0) h3m]; rfl
        have c10 : W.cell? ⟨wr.heap.size, 0, none⟩ = some (.int .i64 (PL : Int)) := by rw [cell_of_row W _ 0 _ 3 (0, 0) h10]; rfl
        have c0 := hLm.c0
        have c4 := hLm.c4
        have hbt := hLm.boot
        have HLm := hid hLm
        have HDm := hid hDm
        have HCL := hid (And.intro hcl hcr)
        have HH3 := hid (And.intro h3m (And.intro h10 h6m))
        have HBm := hid hBm
        have HPL := hid hPL
        clear hDm hLm hRm hcl hcr h3m h10 h6m hBm htag hPL
        gi_wp2
        refine region_round (fun V => V.cell? ⟨w.heap.size, 0, none⟩ = some (.pointer (some ⟨g, 0, none⟩)) ∧ V.cell? ⟨g, 0, none⟩ = some (.pointer (some ⟨q, 0, none⟩)) ∧ V.cell? ⟨wr.heap.size, 0, none⟩ = some (.int .i64 (PL : Int)) ∧ V.cell? ⟨g, 4, none⟩ = some (.int .i64 (boot : Int))) (by kernel_rfl) (noDefer_of (by rfl)) (by rintro ⟨a', w', h'⟩; exact h') ⟨c3, c0, c10, c4⟩ (fun hHeld => ?_)
        clear c3 c0 c10 c4
        refine take_op 0 (some 40) (.pointer (some ⟨g, 0, none⟩)) rfl rfl (by kernel_rfl) (by kernel_rfl) (by kernel_rfl) (fun _ _ _ h => h) (by rfl) hHeld (fun W hW => ?_) ?_
        · obtain ⟨hW1, hW2, hW3, hW4⟩ := hW
          clear hHeld
          go_simp
        simp only [Act.put, List.setIfInBounds_toArray, List.set_cons_zero, List.set_cons_succ]
        refine take_op 1 (some 41) (.pointer (some ⟨g, 0, none⟩)) rfl rfl (by kernel_rfl) (by kernel_rfl) (by kernel_rfl) (fun _ _ _ h => h) (by rfl) hHeld (fun W hW => ?_) ?_
        · obtain ⟨hW1, hW2, hW3, hW4⟩ := hW
          clear hHeld
          go_simp
        simp only [Act.put, List.setIfInBounds_toArray, List.set_cons_zero, List.set_cons_succ]
        refine take_op 2 (some 42) (.pointer (some ⟨g, 0, none⟩)) rfl rfl (by kernel_rfl) (by kernel_rfl) (by kernel_rfl) (fun _ _ _ h => h) (by rfl) hHeld (fun W hW => ?_) ?_
        · obtain ⟨hW1, hW2, hW3, hW4⟩ := hW
          clear hHeld
          go_simp
        simp only [Act.put, List.setIfInBounds_toArray, List.set_cons_zero, List.set_cons_succ]
        refine take_op 3 (some 43) (.pointer (some ⟨q, 0, none⟩)) rfl rfl (by kernel_rfl) (by kernel_rfl) (by kernel_rfl) (fun _ _ _ h => h) (by rfl) hHeld (fun W hW => ?_) ?_
        · obtain ⟨hW1, hW2, hW3, hW4⟩ := hW
          clear hHeld
          go_simp
        simp only [Act.put, List.setIfInBounds_toArray, List.set_cons_zero, List.set_cons_succ]
        refine take_op 4 (some 44) (.pointer (some ⟨g, 0, none⟩)) rfl rfl (by kernel_rfl) (by kernel_rfl) (by kernel_rfl) (fun _ _ _ h => h) (by rfl) hHeld (fun W hW => ?_) ?_
        · obtain ⟨hW1, hW2, hW3, hW4⟩ := hW
          clear hHeld
          go_simp
        simp only [Act.put, List.setIfInBounds_toArray, List.set_cons_zero, List.set_cons_succ]
        refine take_op 5 (some 45) (.int .i64 (PL : Int)) rfl rfl (by kernel_rfl) (by kernel_rfl) (by kernel_rfl) (fun _ _ _ h => h) (by rfl) hHeld (fun W hW => ?_) ?_
        · obtain ⟨hW1, hW2, hW3, hW4⟩ := hW
          clear hHeld
          go_simp
        simp only [Act.put, List.setIfInBounds_toArray, List.set_cons_zero, List.set_cons_succ]
        refine take_op 7 (some 47) (.pointer (some ⟨g, 0, none⟩)) rfl rfl (by kernel_rfl) (by kernel_rfl) (by kernel_rfl) (fun _ _ _ h => h) (by rfl) hHeld (fun W hW => ?_) ?_
        · obtain ⟨hW1, hW2, hW3, hW4⟩ := hW
          clear hHeld
          go_simp
        simp only [Act.put, List.setIfInBounds_toArray, List.set_cons_zero, List.set_cons_succ]
        refine take_op 8 (some 48) (.pointer (some ⟨g, 0, none⟩)) rfl rfl (by kernel_rfl) (by kernel_rfl) (by kernel_rfl) (fun _ _ _ h => h) (by rfl) hHeld (fun W hW => ?_) ?_
        · obtain ⟨hW1, hW2, hW3, hW4⟩ := hW
          clear hHeld
          go_simp
        simp only [Act.put, List.setIfInBounds_toArray, List.set_cons_zero, List.set_cons_succ]
        refine take_op 9 (some 49) (.pointer (some ⟨g, 4, none⟩)) rfl rfl (by kernel_rfl) (by kernel_rfl) (by kernel_rfl) (fun _ _ _ h => h) (by rfl) hHeld (fun W hW => ?_) ?_
        · obtain ⟨hW1, hW2, hW3, hW4⟩ := hW
          clear hHeld
          go_simp
        simp only [Act.put, List.setIfInBounds_toArray, List.set_cons_zero, List.set_cons_succ]
        refine take_op 10 (some 50) (.int .i64 (boot : Int)) rfl rfl (by kernel_rfl) (by kernel_rfl) (by kernel_rfl) (fun _ _ _ h => h) (by rfl) hHeld (fun W hW => ?_) ?_
        · obtain ⟨hW1, hW2, hW3, hW4⟩ := hW
          clear hHeld
          go_simp
        simp only [Act.put, List.setIfInBounds_toArray, List.set_cons_zero, List.set_cons_succ]
        refine take_op 11 (some 51) (.int .i64 (PL : Int)) rfl rfl (by kernel_rfl) (by kernel_rfl) (by kernel_rfl) (fun _ _ _ h => h) (by rfl) hHeld (fun W hW => ?_) ?_
        · obtain ⟨hW1, hW2, hW3, hW4⟩ := hW
          clear hHeld
          go_simp
        simp only [Act.put, List.setIfInBounds_toArray, List.set_cons_zero, List.set_cons_succ]
        refine take_op 12 (some 52) (chunkV b off m x) rfl rfl (by kernel_rfl) (by kernel_rfl) (by kernel_rfl) (fun _ _ _ h => h) (by rfl) hHeld (fun W hW => ?_) ?_
        · obtain ⟨hW1, hW2, hW3, hW4⟩ := hW
          clear hHeld
          go_simp
        simp only [Act.put, List.setIfInBounds_toArray, List.set_cons_zero, List.set_cons_succ]
        refine wpAnyH_ready (rs := [6]) (by kernel_rfl) (by simp) (AllReadyH.cons rfl (fun K hK => ?_) AllReadyH.nil)
        have HK := hid hK
        have HHE := hid hHeld
        clear hK hHeld
        go_simp
        refine (number_at (HLm.out.below (Below.drew (Below.refl _ W))) PL hnum8).mono ?_
        rintro r w1 ⟨rfl, rfl⟩
        refine HK.out.out _ _ HHE.out (fun hHeld => ?_)
        clear HK HHE
        try simp only [Act.put, List.setIfInBounds_toArray, List.set_cons_zero, List.set_cons_succ]
        refine wpAnyH_ready (rs := [13]) (by kernel_rfl) (by simp) (AllReadyH.cons rfl (fun K hK => ?_) AllReadyH.nil)
        have HK := hid hK
        have HHE := hid hHeld
        clear hK hHeld
        go_simp
        refine (packed_any boot PL _ (prt f x) _ _ HCL.out.1 hbt (Nat.min_le_left _ _) (HCL.out.2.below (Below.drew (Below.refl _ W)))).mono ?_
        rintro r w2 ⟨y2, rfl, hbu, hb2, hy2⟩
        have hb2 : Below W.heap.size W w2 := below_of_drew hb2
        have hbq2 : ∀ k, (k = q ∨ k = p) → k < W.heap.size := fun k e => by rcases e with rfl | rfl; exact HDm.out.lt.1; exact HDm.out.lt.2
        have hwW : w.heap.size ≤ W.heap.size := HBm.out.size
        have e3 := hb2.block w.heap.size (Array.getElem?_eq_some_iff.1 HH3.out.1).1
        have e10 := hb2.block wr.heap.size (Array.getElem?_eq_some_iff.1 HH3.out.2.1).1
        have e6 := hb2.block (w.heap.size + 1) (Array.getElem?_eq_some_iff.1 HH3.out.2.2).1
        have hH3 := And.intro (e3.trans HH3.out.1) (And.intro (e10.trans HH3.out.2.1) (e6.trans HH3.out.2.2))
        have hL2 := HLm.out.below hb2
        have hD2 := HDm.out.below hb2
        have c3 : w2.cell? ⟨w.heap.size, 0, none⟩ = some (.pointer (some ⟨g, 0, none⟩)) := by rw [cell_of_row w2 _ 0 _ 31 (0, 0) hH3.1]; rfl
        have c10 : w2.cell? ⟨wr.heap.size, 0, none⟩ = some (.int .i64 (PL : Int)) := by rw [cell_of_row w2 _ 0 _ 3 (0, 0) hH3.2.1]; rfl
        refine HK.out.out _ _ ⟨c3, hL2.c0, c10, hL2.c4⟩ (fun hHeld => ?_)
        have HW2 := hid (write_gone (i := num segs PL) hD2 HDE.out HFU.out hnlt (by omega) hbu (sect_len _ _ _ (prt_len _ _)))
        have HB2 := hid hb2
        have HHH := hid hH3
        have HL2 := hid hL2
        have HT2 := hid hD2.tag
        clear HK HHE c3 c10 hbu hb2 hy2 e3 e10 e6 hH3 hL2 hD2
        try simp only [Act.put, List.setIfInBounds_toArray, List.set_cons_zero, List.set_cons_succ]
        refine wpAnyH_ready (rs := [14]) (by kernel_rfl) (by simp) (AllReadyH.cons rfl (fun K hK => ?_) AllReadyH.nil)
        have HK := hid hK
        clear hK hHeld
        go_simp
        refine HW2.out.mono ?_
        rintro r w3 ⟨rfl, hD3, hb3⟩
        have hn3 : ∀ {k : Nat} {t : TypeId}, Tag w2 k t → t ≠ 66 → t ≠ 86 → ¬ (k = q ∨ k = p) := fun {k t} ht h1 h2 e => by rcases e with rfl | rfl; exact ht.ne HT2.out.1 h1 rfl; exact ht.ne HT2.out.2 h2 rfl
        have hk3 : ∀ {k : Nat} {c : Array Value} {t : TypeId}, w2.heap[k]? = some (.cells c t (0, 0)) → t ≠ 66 → t ≠ 86 → w3.heap[k]? = some (.cells c t (0, 0)) := fun {k c t} e h1 h2 => (hb3.block k (Array.getElem?_eq_some_iff.1 e).1 (hn3 ⟨c, e⟩ h1 h2)).trans e
        have hHc := And.intro (hk3 HHH.out.1 (by decide) (by decide)) (And.intro (hk3 HHH.out.2.1 (by decide) (by decide)) (hk3 HHH.out.2.2 (by decide) (by decide)))
        have hL3 := HL2.out.but hb3 (noInts_of (fun k e => by rcases e with rfl | rfl; exact ⟨66, HT2.out.1, by decide⟩; exact ⟨86, HT2.out.2, by decide⟩)) (hn3 HL2.out.tag (by decide) (by decide))
        have c3 : w3.cell? ⟨w.heap.size, 0, none⟩ = some (.pointer (some ⟨g, 0, none⟩)) := by rw [cell_of_row w3 _ 0 _ 31 (0, 0) hHc.1]; rfl
        have c10 : w3.cell? ⟨wr.heap.size, 0, none⟩ = some (.int .i64 (PL : Int)) := by rw [cell_of_row w3 _ 0 _ 3 (0, 0) hHc.2.1]; rfl
        have f10 : w3.frozen? ⟨wr.heap.size, 0, none⟩ = false := frozen_of_row w3 _ 0 _ 3 hHc.2.1
        refine HK.out.out _ _ ⟨c3, hL3.c0, c10, hL3.c4⟩ (fun hHeld => ?_)
        have HKO : Hid (KeepsOthers W w3) := (keeps_of_but (below_but (fun _ => False) HB2.out) (fun _ e => e.elim)).trans (keeps_of_but hb3 (fun k e => by rcases e with rfl | rfl; exact ⟨_, HT2.out.1⟩; exact ⟨_, HT2.out.2⟩))
        have HD3 := hid hD3
        have HB23 := hid hb3
        have HB3 := hid ((HBm.out.trans (below_but (fun _ => False) HB2.out) (fun _ e => e.elim)).trans hb3 (fun k e => .inl e))
        have HHC := hid hHc
        have HLT3 : Hid (W.heap.size ≤ w3.heap.size) := HKO.out.size
        clear HK hD3 hb3 hn3 hk3 hHc hL3 c3 HW2
        try simp only [Act.put, List.setIfInBounds_toArray, List.set_cons_zero, List.set_cons_succ]
        have c6 : w3.cell? ⟨w.heap.size + 1, 0, none⟩ = some (.int .i64 0) := by rw [cell_of_row w3 _ 0 _ 26 (0, 0) HHC.out.2.2]; rfl
        have f6 : w3.frozen? ⟨w.heap.size + 1, 0, none⟩ = false := frozen_of_row w3 _ 0 _ 26 HHC.out.2.2
        refine take_op 15 (some 12) (.int .i64 15) rfl rfl (by kernel_rfl) (by kernel_rfl) (by kernel_rfl) (fun _ _ _ h => h) (by rfl) hHeld (fun W hW => ?_) ?_
        · go_simp
        simp only [Act.put, List.setIfInBounds_toArray, List.set_cons_zero, List.set_cons_succ]
        refine wpAnyH_done (by kernel_rfl) ?_ _
        clear hHeld
        gi_wp2
        have hb5 := (only_setCell w3 (w.heap.size + 1) 0 none (.int .i64 15)).but
        have hlt0 := HD.out.lt
        have hq5 : q ≠ w.heap.size + 1 ∧ p ≠ w.heap.size + 1 := by omega
        have hno : ∀ k, k ≠ w.heap.size + 1 → ¬ (k = w.heap.size + 1 ∨ some k = none) := fun k h e => by rcases e with e | e; exact h e; cases e
        have h6z : (w3.setCell ⟨w.heap.size + 1, 0, none⟩ (.int .i64 15)).heap[w.heap.size + 1]? = some (.cells #[.int .i64 15] 26 (0, 0)) := heap_setCell_same _ _ _ _ _ _ HHC.out.2.2
        exact ⟨HKO.out.trans (keeps_of_but hb5 (fun k e => ⟨26, by rcases e with rfl | e; exact ⟨_, HHC.out.2.2⟩; cases e⟩)), rfl, HD3.out.but hb5 (hno q hq5.1) (hno p hq5.2), h6z, HB3.out.trans hb5 (fun k e => .inr (by rcases e with rfl | e; omega; cases e)), (Array.getElem?_eq_some_iff.1 h6z).1⟩
end Go.Proofs.Yteohjfhflodklaa
