/- What LogKnown asks besides: a fuse, a Load on a dead disk, of a length that is no record's end; an Append on a disk whose fuse has burnt down: it is refused, what it took is given back, and the disk is dead. Condition: fewer than a million operations. -/
import Derived.Test.YteohjfhflodklaaLogW
namespace Go.Proofs.Yteohjfhflodklaa
open Go.ChangeShapes Go.WideShapes Go.ChangeAt Go.RowKit Pen
open Crc (four nx run)
set_option maxRecDepth 4000
set_option linter.unusedVariables false
theorem fuse_any {w : World} {q p : Nat} {d : Dk} (h : DiskAt w q p d) (z : Int) (hz : z < 9223372036854775808) : Calls Try.prog 27 #[.pointer (some ⟨q, 0, none⟩), .int .i64 z] w fun e w' => e = .returned (.tuple #[]) ∧ DiskAt w' q p (d.fused z) ∧ Only q none w w' := by
  have hne := h.ne
  obtain ⟨y, h1, h2, h3, h4, h5⟩ := h
  obtain ⟨c0, c1, c2, c3, c4, cf⟩ := DiskAt.cells h1
  have HF : Hid (DiskAt ((w.setCell ⟨q, 2, none⟩ (.bool (decide (0 ≤ z)))).setCell ⟨q, 3, none⟩ (.int .i64 z)) q p (d.fused z) ∧ Only q none w ((w.setCell ⟨q, 2, none⟩ (.bool (decide (0 ≤ z)))).setCell ⟨q, 3, none⟩ (.int .i64 z))) := by
    have ho := (only_setCell w q 2 none (.bool (decide (0 ≤ z)))).tr (only_setCell _ q 3 none (.int .i64 z))
    refine ⟨⟨z, ?_, (ho.block p (Array.getElem?_eq_some_iff.1 h2).1 hne.symm (by simp)).trans h2, h3, fun m hm => ?_, h5⟩, ho⟩
    · rw [heap_setCell_same _ _ _ _ _ _ (heap_setCell_same _ _ _ _ _ _ h1)]
      by_cases h0 : 0 ≤ z <;> simp [Dk.fused, h0]
    · by_cases h0 : 0 ≤ z
      · simp [Dk.fused, h0] at hm
        omega
      · simp [Dk.fused, h0] at hm
  have cf2 := cf 2
  have cf3 := cf 3
  clear h1 h2 h3 h4 h5 cf hz
  go_enter Try.func27, Try.ntmps27
  by_cases h0 : 0 ≤ z
  · rw [decide_eq_true h0] at HF
    go_wp2_with fail
    go_end0
    exact ⟨rfl, HF.out⟩
  · rw [decide_eq_false h0] at HF
    go_wp2_with fail
    go_end0
    exact ⟨rfl, HF.out⟩

/-- Load on a dead disk. -/
theorem load_dead {w : World} {q p : Nat} {d : Dk} (h : DiskAt w q p d) (hdead : d.dead = true) (v0 v1 v2 : Value) :
    Calls Try.prog 18 #[.pointer (some ⟨q, 0, none⟩), .agg #[v0, v1, v2]] w fun e w' => e = .returned (.tuple #[.pointer none, .slice none 0 0, .int .i64 15]) ∧ Below w.heap.size w w' := by
  have HW0 : Hid (Below w.heap.size w (w.alloc (.cells #[v0, v1, v2] 36))) := (Below.refl _ w).alloc (Nat.le_refl _) _
  have HD := hid (dead_any (h.below HW0.out))
  rw [hdead] at HD
  clear h hdead
  go_enter Try.func18, Try.ntmps18
  go_wp2_with fail
  refine HD.out.mono ?_
  rintro e w1 ⟨rfl, rfl⟩
  go_wp2_with fail
  go_ret3
  exact ⟨rfl, HW0.out⟩
/-- What begins with a record of which the end is missing holds none. -/
theorem scan_short {fits : Nat → Nat → Bool} {D : Nat → List Nat} {last lb n m k b : Nat} {r : List Nat} (hr : r.length ≤ 16384) (h : At D n (secsOf n b (mk last b r))) (hm : 54 * m < r.length + 16) : scan fits D k last lb n m = [] := by
  refine scan_none k ?_
  have ht := at_txt h
  rw [mk_len] at ht
  have hmc : m ≤ cnt (r.length + 16) := by unfold cnt; omega
  have h64 : ∀ i, i < cnt (r.length + 16) → (D (n + i)).length = 64 := fun i hi => by
    rw [h i (by rw [secsOf_len, mk_len]; exact hi), secsOf_get _ _ _ _ (by rw [mk_len]; exact hi)]
    exact sect_len _ _ _ (prt_len _ _)
  rw [← txt_take hmc h64, ht, List.take_append_of_le_length (by rw [mk_len]; omega)]
  exact rd_cut hr _ (by omega)
end Go.Proofs.Yteohjfhflodklaa
namespace Go.Proofs.Yteohjfhflodklaa
open Go.RowKit Pen
open Crc (four nx run)
set_option maxRecDepth 4000
set_option linter.unusedVariables false
attribute [local go_sem] Oper.semAt_some
def gone (d : Dk) : Dk := { d with dead := true }
/-- How it stands where the range was left. -/
def Gone (w : World) (q p B6 : Nat) (d : Dk) (W : World) : Prop := DiskAt W q p (gone d) ∧ W.heap[B6]? = some (.cells #[.int .i64 15] 26 (0, 0)) ∧ But (fun k => k = q ∨ k = p) w W ∧ B6 < W.heap.size
theorem Gone.but {S : Nat → Prop} {w : World} {q p B6 : Nat} {d : Dk} {W W' : World} (h : Gone w q p B6 d W) (hb : But S W W') (hs : ∀ k, S k → w.heap.size ≤ k ∧ ¬ ∃ t, Tag W k t) : Gone w q p B6 d W' := by
  obtain ⟨h1, h2, h3, h4⟩ := h
  have hk : ∀ {k : Nat} {c : Array Value} {t : TypeId}, W.heap[k]? = some (.cells c t (0, 0)) → W'.heap[k]? = some (.cells c t (0, 0)) := fun {k c t} e => (hb.block k (Array.getElem?_eq_some_iff.1 e).1 fun e2 => (hs k e2).2 ⟨t, c, e⟩).trans e
  exact ⟨h1.but hb (fun e => (hs _ e).2 ⟨_, h1.tag.1⟩) (fun e => (hs _ e).2 ⟨_, h1.tag.2⟩), hk h2, h3.trans hb (fun k e => .inr (hs k e).1), Nat.lt_of_lt_of_le h4 hb.size⟩
/-- A sector is written onto a disk whose fuse has burnt down. -/
theorem write_gone {w : World} {q p i : Nat} {d : Dk} (h : DiskAt w q p d) (hdead : d.dead = false) (hf : d.fuse = some 0) (hi : i < d.secs.length) (hops : d.ops < 1000000000) {g : Nat} {l : List Nat} (hb : Buf w g l) (hl : l.length = 64) :
    Calls Try.prog 51 #[.pointer (some ⟨q, 0, none⟩), .int .i64 (i : Int), .slice (some ⟨g, 0, none⟩) 64 64] w fun e w' => e = .returned (.int .i64 15) ∧ DiskAt w' q p (gone d) ∧ But (fun k => k = q ∨ k = p) w w' := by
  have := write_any h hops (z := (i : Int)) (a := some ⟨g, 0, none⟩) (b := l) (n := 64) (cap := 64) (hb.row) hl
  have e : d.write (i : Int) l = (gone d, 15) := by
    unfold Dk.write
    have h1 : d.has (i : Int) = true := by unfold Dk.has; simp; omega
    have h2 : d.may = false := by unfold Dk.may; rw [hf]; rfl
    have h3 : d.spent = gone d := by cases d; simp only at hf; subst hf; rfl
    rw [hdead, if_neg (by decide), if_neg (fun e => by rcases e with e | e; rw [h1] at e; cases e; exact e hl), if_pos h2, h3]
  refine this.mono ?_
  rintro r w' ⟨rfl, h2, h3⟩
  rw [e] at h2 ⊢
  exact ⟨rfl, h2, h3.but.mono (fun k e => .inl (by rcases e with e | e; exact .inl e; exact .inr (by simpa using e)))⟩
set_option maxRecDepth 100000 in
set_option maxHeartbeats 4000000 in
theorem lwrite_dead {w : World} {g q p e last boot : Nat} {d : Dk} {segs : List Nat} (h : LogAt w g q segs e last boot) (hd : DiskAt w q p d) (hdead : d.dead = false) (hf : d.fuse = some 0) (hs : Has d segs) (he : e ≤ 8 * segs.length) (b off m cap : Nat) (f : List Nat)
    (hr : Row w (some ⟨b, off, none⟩) f) (hm : f.length = m) (hmc : m ≤ cap) (hm1 : m ≤ 1000000) (n : Nat) (hn : n + cnt m = e) (hops : d.ops ≤ 1000000) (hbq : b ≠ q ∧ b ≠ p) (hm0 : 1 ≤ m) :
    Calls Try.prog 33 #[.pointer (some ⟨g, 0, none⟩), .slice (some ⟨b, off, none⟩) m cap, .int .i64 (n : Int)] w fun r w' => r = .returned (.int .i64 15) ∧ DiskAt w' q p (gone d) ∧ But (fun k => k = q ∨ k = p) w w' := by
  have hlen := h.len
  have hg := h.glt
  have hW0b : Below w.heap.size w ((w.alloc (.cells #[.pointer (some ⟨g, 0, none⟩)] 31)).alloc (.cells #[.int .i64 0] 26)) := ((Below.refl _ w).alloc (Nat.le_refl _) _).alloc (by simp) _
  have h3 : ((w.alloc (.cells #[.pointer (some ⟨g, 0, none⟩)] 31)).alloc (.cells #[.int .i64 0] 26)).heap[w.heap.size]? = some (.cells #[.pointer (some ⟨g, 0, none⟩)] 31 (0, 0)) := by
    have h1 := heap_alloc_new w (.cells #[.pointer (some ⟨g, 0, none⟩)] 31)
    exact (((Below.refl _ (w.alloc (.cells #[.pointer (some ⟨g, 0, none⟩)] 31))).alloc (Nat.le_refl _) (.cells #[.int .i64 0] 26)).block w.heap.size (by simp)).trans h1
  have h6 : ((w.alloc (.cells #[.pointer (some ⟨g, 0, none⟩)] 31)).alloc (.cells #[.int .i64 0] 26)).heap[w.heap.size + 1]? = some (.cells #[.int .i64 0] 26 (0, 0)) := by
    have h1 := heap_alloc_new (w.alloc (.cells #[.pointer (some ⟨g, 0, none⟩)] 31)) (.cells #[.int .i64 0] 26)
    rwa [show (w.alloc (.cells #[.pointer (some ⟨g, 0, none⟩)] 31)).heap.size = w.heap.size + 1 by simp] at h1
  have hsz0 : ((w.alloc (.cells #[.pointer (some ⟨g, 0, none⟩)] 31)).alloc (.cells #[.int .i64 0] 26)).heap.size = w.heap.size + 2 := by simp
  have HL := hid h
  have HD := hid hd
  have HDE := hid hdead
  have HFU := hid hf
  have HS := hid hs
  have HR := hid hr
  have HM := hid hm
  have HW0 := hid hW0b
  have H3 := hid h3
  have H6 := hid h6
  have HN := hid hn
  clear h hd hdead hf hs hr hm hW0b h3 h6
  refine (callsIn_wide (n := 3)).1 ?_
  refine callsIn_of_wp_marks Try.func33 rfl trivial ?_ rfl
  simp only [Try.ntmps33, List.size_toArray, List.length_cons, List.length_nil, Nat.reduceAdd, Nat.reduceSub, Array.replicate_succ, Array.replicate_zero, List.push_toArray, List.append_toArray, List.nil_append, List.cons_append]
  refine Go.wpIn_mono (Q := calm _) ?_ calm_out
  refine wpIn_wide.2 ?_
  go_wp2_with fail
  generalize (w.alloc (.cells #[.pointer (some ⟨g, 0, none⟩)] 31)).alloc (.cells #[.int .i64 0] 26) = W0 at *
  go_loopg [7] (cnt m) (fun gk v7 wr => ∃ i : Nat, i + gk = cnt m ∧ v7 = .int .i64 ((n + i : Nat) : Int) ∧ Below W0.heap.size W0 wr)
  case atStart => exact ⟨0, by omega, rfl, Below.refl _ _⟩
  case round =>
    obtain ⟨i, hi, rfl, hb⟩ := hrel
    have hB := below_tr HW0.out hb (by omega)
    have hL1 := HL.out.below hB
    have hD1 := HD.out.below hB
    have h3r := (hb.block w.heap.size (by omega)).trans H3.out
    have c3 : wr.cell? ⟨w.heap.size, 0, none⟩ = some (.pointer (some ⟨g, 0, none⟩)) := by rw [cell_of_row wr _ 0 _ 31 (0, 0) h3r]; rfl
    have c2 := hL1.c2
    have c0 := hL1.c0
    by_cases hlt : i < cnt m
    · have hle : n + i < 8 * segs.length := by omega
      have hlt' : ((n + i : Nat) : Int) < (e : Int) := by omega
      have HL1 := hid (hL1.below (Below.drew (Below.refl _ wr)))
      have HD1 := hid (hD1.below (Below.drew (Below.refl _ wr)))
      have HB := hid hb
      have hnum := num_lt HS.out hle
      have hbs := hb.size
      generalize hN : n + i = N at *
      clear hb hL1 hD1 hB h3r
      go_wp2_with fail
      go_region_held (fun W => W.cell? ⟨w.heap.size, 0, none⟩ = some (.pointer (some ⟨g, 0, none⟩)) ∧ W.cell? ⟨g, 0, none⟩ = some (.pointer (some ⟨q, 0, none⟩))) (first | exact ⟨c3, c0⟩ | exact S2.out) (first
        | (go_at_call 49; refine (number_at HL1.out N (by omega)).mono ?_; rintro r w1 ⟨rfl, rfl⟩)
        | (go_at_call 23; refine (read_ok HD1.out HDE.out hnum).mono ?_; rintro r w2 ⟨y, rfl, hbuf, hb2, hy⟩
           have hb2 : Below wr.heap.size wr w2 := below_of_drew hb2
           have S2 := hid (show w2.cell? ⟨w.heap.size, 0, none⟩ = some (.pointer (some ⟨g, 0, none⟩)) ∧ w2.cell? ⟨g, 0, none⟩ = some (.pointer (some ⟨q, 0, none⟩)) from ⟨(hb2.cell (p := ⟨w.heap.size, 0, none⟩) (show w.heap.size < _ by omega)).trans c3, (hb2.cell (p := ⟨g, 0, none⟩) (show g < _ by omega)).trans c0⟩)
           have HB2 := hid (below_tr HB.out hb2 hbs)
           clear hbuf hb2))
      go_wp2_with fail
      go_roundg (gk - 1)
      case measure => omega
      case rel => exact ⟨i + 1, by omega, by first | go_num | (rw [← hN]; go_num), HB2.out⟩
    · have hlt' : ¬ ((n + i : Nat) : Int) < (e : Int) := by omega
      have hic : i = cnt m := by omega
      have H3r := hid h3r
      have HB := hid hb
      have H6r := hid ((hb.block (w.heap.size + 1) (by omega)).trans H6.out)
      have hbs := hb.size
      have HDr := hid hD1
      have HBr := hid hB
      clear hb hL1 hD1 hB h3r hi
      generalize hN : n + i = N at *
      go_wp2_with fail
      refine (chunk_any _ _ m cap).mono ?_
      rintro r w5 ⟨rfl, rfl⟩
      go_wp2_with fail
      have hal : Below wr.heap.size wr (((wr.alloc (.cells #[.int .i64 (n : Int)] 3)).alloc (.cells #[.slice (some ⟨b, off, none⟩) m cap] 40)).alloc (.cells #[.int .i64 54] 3)) := (((Below.refl _ wr).alloc (Nat.le_refl _) _).alloc (by simp) _).alloc (by simp; omega) _
      obtain ⟨k10, ky, kz⟩ := alloc3 wr (.cells #[.int .i64 (n : Int)] 3) (.cells #[.slice (some ⟨b, off, none⟩) m cap] 40) (.cells #[.int .i64 54] 3)
      have ksz : (((wr.alloc (.cells #[.int .i64 (n : Int)] 3)).alloc (.cells #[.slice (some ⟨b, off, none⟩) m cap] 40)).alloc (.cells #[.int .i64 54] 3)).heap.size = wr.heap.size + 3 := by simp
      have HM0 : Hid (Mid w q p w.heap.size (w.heap.size + 1) wr.heap.size g d segs boot n f [] (((wr.alloc (.cells #[.int .i64 (n : Int)] 3)).alloc (.cells #[.slice (some ⟨b, off, none⟩) m cap] 40)).alloc (.cells #[.int .i64 54] 3))) :=
        ⟨HDr.out.below hal, k10, (hal.block _ (by omega)).trans H3r.out, (hal.block _ (by omega)).trans H6r.out, below_but _ (below_tr HBr.out hal (by omega)), by omega⟩
      generalize ((wr.alloc (.cells #[.int .i64 (n : Int)] 3)).alloc (.cells #[.slice (some ⟨b, off, none⟩) m cap] 40)).alloc (.cells #[.int .i64 54] 3) = WL at *
      have cy : WL.cell? ⟨wr.heap.size + 1, 0, none⟩ = some (.slice (some ⟨b, off, none⟩) m cap) := by rw [cell_of_row WL _ 0 _ 40 (0, 0) ky]; rfl
      have cz : WL.cell? ⟨wr.heap.size + 1 + 1, 0, none⟩ = some (.int .i64 54) := by rw [cell_of_row WL _ 0 _ 3 (0, 0) kz]; rfl
      have hwl : w.heap.size + 2 ≤ wr.heap.size := by omega
      have HFN := hid hm1
      refine (wpIn_wide (n := 3)).1 ?_
      refine wpIn_rangeFunc_ownF (n := 3) rfl (by decide) (gf := 60) (lb := #[.pointer (some ⟨wr.heap.size + 1, 0, none⟩), .pointer (some ⟨wr.heap.size + 1 + 1, 0, none⟩)]) rfl trivial call60 (encs := fun x => #[chunkV b off m x]) (Kp := Boxes (wr.heap.size + 1) (wr.heap.size + 1 + 1)) (S := fun ys => ys = List.range (cnt m)) (Sp := fun _ => True) (N := cnt m) (w0 := WL)
        (fun l J Jx W hW hJ _ hY h0 => chunk1_in 2 (by decide) l _ _ b off m cap hm1 hmc J Jx hY W ((hW.cell (p := ⟨wr.heap.size + 1, 0, none⟩) (show wr.heap.size + 1 < _ by omega)).trans cy) ((hW.cell (p := ⟨wr.heap.size + 1 + 1, 0, none⟩) (show wr.heap.size + 1 + 1 < _ by omega)).trans cz) h0 hJ)
        (fun h k => ⟨k.1.trans h.1, k.2.trans h.2⟩)
        (fun W l o o' hl _ _ _ => ⟨by simp only [World.cell?, World.putObj_heap_other (show wr.heap.size + 1 ≠ l by omega)], by simp only [World.cell?, World.putObj_heap_other (show wr.heap.size + 1 + 1 ≠ l by omega)]⟩)
        (Below.refl _ _) (fun _ => rfl) (fun pre W => pre = [] ∧ Mid w q p w.heap.size (w.heap.size + 1) wr.heap.size g d segs boot n f [] W) (fun c _ W => c = .ret ∧ Gone w q p (w.heap.size + 1) d W)
        (fun s W W' row hs hgr hro => And.intro hs.1 (hs.2.but (S := fun k => row = some k) ⟨hgr.os, hgr.tape, hgr.output, hgr.size, fun k hk hn => hgr.block k hk (fun e => hn e.symm)⟩ (fun k e => ⟨by have := (hro k e).1; omega, fun ⟨t, c, ht⟩ => by obtain ⟨o, ho, hc⟩ := (hro k e).2; rw [ht] at ho; cases ho; simp [Obj.isCells] at hc⟩)))
        (fun c s W W' row hs hgr hro => And.intro hs.1 (hs.2.but (S := fun k => row = some k) ⟨hgr.os, hgr.tape, hgr.output, hgr.size, fun k hk hn => hgr.block k hk (fun e => hn e.symm)⟩ (fun k e => ⟨by have := (hro k e).1; omega, fun ⟨t, c, ht⟩ => by obtain ⟨o, ho, hc⟩ := (hro k e).2; rw [ht] at ho; cases ho; simp [Obj.isCells] at hc⟩))) ⟨rfl, HM0.out⟩ (fun x => { tmps := #[.pointer (some ⟨g, 0, none⟩), .slice (some ⟨b, off, none⟩) m cap, .int .i64 (n : Int), .pointer (some ⟨w.heap.size, 0, none⟩), undef, undef, .pointer (some ⟨w.heap.size + 1, 0, none⟩), .int .i64 (N : Int), u8, u9, .pointer (some ⟨wr.heap.size, 0, none⟩), chunkV b off m x, undef, .int .i64 (n : Int), .int .i64 (N : Int), .pointer (some ⟨g, 0, none⟩), .pointer (some ⟨g, 0, none⟩), .pointer (some ⟨g, 2, none⟩), .int .i64 (e : Int), .bool false, u20, u21, u22, u23, u24, u25, u26, u27, u28, u29, u30, u31, u32, u33, u34, u35, .int .i64 (n : Int), .slice (some ⟨b, off, none⟩) m cap, .func (.func 60) #[] #[.pointer (some ⟨wr.heap.size + 1, 0, none⟩), .pointer (some ⟨wr.heap.size + 1 + 1, 0, none⟩)], chunkV b off m x, undef, undef, undef, undef, undef, undef, undef, undef, undef, undef, undef, undef, undef, undef, undef, undef, undef, undef, undef, undef], defers := [] }) ?assign ?body ?done ?stop
      case assign =>
        intro l x W K hK
        gi_wp2
        exact hK
      case stop =>
        rintro D c pre W hD _ ⟨rfl, hDf, h6f, hBf, hsf⟩ hK
        have hDne : ∀ {k : Nat} {t : TypeId}, Tag W k t → k ≠ D := fun {k t} ⟨c, h⟩ e => by rw [e, hK] at h; cases h
        have hDne2 := hDne hDf.tag.1
        have hDne3 := hDne hDf.tag.2
        have HF1 := hid hDf
        have HF2 := hid hBf
        have HDD := hid (And.intro hDne2 (And.intro hDne3 hD))
        have hb9 : But (fun k => k = D) W (W.putObj D (.deferred none)) := grown_but _ (grownBy_putObj' _ D _) (fun k e => by cases e; rfl)
        have h6h := (hb9.block (w.heap.size + 1) (Array.getElem?_eq_some_iff.1 h6f).1 (fun e => hDne ⟨_, h6f⟩ e)).trans h6f
        have c6h : (W.putObj D (.deferred none)).cell? ⟨w.heap.size + 1, 0, none⟩ = some (.int .i64 15) := by rw [cell_of_row _ _ 0 _ 26 (0, 0) h6h]; rfl
        have hDz : w.heap.size ≤ D := by have := HDD.out.2.2; omega
        gi_wp2
        refine ⟨by simp, .inl ⟨_, _, rfl, run_takeDeferred hK, ?_⟩⟩
        refine ⟨.int .i64 15, by simp [results, Try.results33, go_sem, c6h], rfl, HF1.out.but hb9 (fun e => HDD.out.1 e) (fun e => HDD.out.2.1 e), HF2.out.trans hb9 (fun k e => .inr (by subst e; exact hDz))⟩
      case done =>
        rintro D xs W hD hxs ⟨hx0, _⟩ hK
        have : 0 < cnt m := by unfold cnt; omega
        rw [hx0] at hxs
        have e := congrArg List.length hxs
        simp at e
        omega
      case body =>
        rintro l pre x W ⟨hpre, hmid⟩ hlt
        subst hpre
        obtain ⟨hDm, h10, h3m, h6m, hBm, hsm⟩ := hmid
        have htag := HD.out.tag
        have hLm := HL.out.but hBm (noInts_of (fun k e => by rcases e with rfl | rfl; exact ⟨66, htag.1, by decide⟩; exact ⟨86, htag.2, by decide⟩)) (fun e => by rcases e with e | e; exact HL.out.tag.ne htag.1 (by decide) e; exact HL.out.tag.ne htag.2 (by decide) e)
        have hRm := HR.out.but hBm (fun v e => by simp at e; subst e; exact fun e => by rcases e with e | e; exact hbq.1 e; exact hbq.2 e)
        obtain ⟨hcl, hcr⟩ := chunk_row hRm x
        rw [HM.out] at hcl
        obtain ⟨PL, hPL⟩ : ∃ PL, n + ([] : List Nat).length = PL := ⟨_, rfl⟩
        rw [hPL] at h10
        have hnum8 : PL / 8 < segs.length := by have := HN.out; omega
        have hDm : DiskAt W q p d := hDm
        have hnlt := num_lt HS.out (show PL < 8 * segs.length by have := HN.out; omega)
        have hcm : cnt m ≤ 20000 := by unfold cnt; omega
        have c3 : W.cell? ⟨w.heap.size, 0, none⟩ = some (.pointer (some ⟨g, 0, none⟩)) := by rw [cell_of_row W _ 0 _ 31 (0, 0) h3m]; rfl
        have c10 : W.cell? ⟨wr.heap.size, 0, none⟩ = some (.int .i64 (PL : Int)) := by rw [cell_of_row W _ 0 _ 3 (0, 0) h10]; rfl
        have c0 := hLm.c0
        have c4 := hLm.c4
        have hbt := hLm.boot
        have HLm := hid hLm
        have HDm := hid hDm
        have HCL := hid (And.intro hcl hcr)
        have HH3 := hid (And.intro h3m (And.intro h10 h6m))
        have HBm := hid hBm
        have HPL := hid hPL
        clear hDm hLm hRm hcl hcr h3m h10 h6m hBm htag hPL
        gi_wp2
        refine region_round (fun V => V.cell? ⟨w.heap.size, 0, none⟩ = some (.pointer (some ⟨g, 0, none⟩)) ∧ V.cell? ⟨g, 0, none⟩ = some (.pointer (some ⟨q, 0, none⟩)) ∧ V.cell? ⟨wr.heap.size, 0, none⟩ = some (.int .i64 (PL : Int)) ∧ V.cell? ⟨g, 4, none⟩ = some (.int .i64 (boot : Int))) (by kernel_rfl) (noDefer_of (by rfl)) (by rintro ⟨a', w', h'⟩; exact h') ⟨c3, c0, c10, c4⟩ (fun hHeld => ?_)
        clear c3 c0 c10 c4
        refine take_op 0 (some 40) (.pointer (some ⟨g, 0, none⟩)) rfl rfl (by kernel_rfl) (by kernel_rfl) (by kernel_rfl) (fun _ _ _ h => h) (by rfl) hHeld (fun W hW => ?_) ?_
        · obtain ⟨hW1, hW2, hW3, hW4⟩ := hW
          clear hHeld
          go_simp
        simp only [Act.put, List.setIfInBounds_toArray, List.set_cons_zero, List.set_cons_succ]
        refine take_op 1 (some 41) (.pointer (some ⟨g, 0, none⟩)) rfl rfl (by kernel_rfl) (by kernel_rfl) (by kernel_rfl) (fun _ _ _ h => h) (by rfl) hHeld (fun W hW => ?_) ?_
        · obtain ⟨hW1, hW2, hW3, hW4⟩ := hW
          clear hHeld
          go_simp
        simp only [Act.put, List.setIfInBounds_toArray, List.set_cons_zero, List.set_cons_succ]
        refine take_op 2 (some 42) (.pointer (some ⟨g, 0, none⟩)) rfl rfl (by kernel_rfl) (by kernel_rfl) (by kernel_rfl) (fun _ _ _ h => h) (by rfl) hHeld (fun W hW => ?_) ?_
        · obtain ⟨hW1, hW2, hW3, hW4⟩ := hW
          clear hHeld
          go_simp
        simp only [Act.put, List.setIfInBounds_toArray, List.set_cons_zero, List.set_cons_succ]
        refine take_op 3 (some 43) (.pointer (some ⟨q, 0, none⟩)) rfl rfl (by kernel_rfl) (by kernel_rfl) (by kernel_rfl) (fun _ _ _ h => h) (by rfl) hHeld (fun W hW => ?_) ?_
        · obtain ⟨hW1, hW2, hW3, hW4⟩ := hW
          clear hHeld
          go_simp
        simp only [Act.put, List.setIfInBounds_toArray, List.set_cons_zero, List.set_cons_succ]
        refine take_op 4 (some 44) (.pointer (some ⟨g, 0, none⟩)) rfl rfl (by kernel_rfl) (by kernel_rfl) (by kernel_rfl) (fun _ _ _ h => h) (by rfl) hHeld (fun W hW => ?_) ?_
        · obtain ⟨hW1, hW2, hW3, hW4⟩ := hW
          clear hHeld
          go_simp
        simp only [Act.put, List.setIfInBounds_toArray, List.set_cons_zero, List.set_cons_succ]
        refine take_op 5 (some 45) (.int .i64 (PL : Int)) rfl rfl (by kernel_rfl) (by kernel_rfl) (by kernel_rfl) (fun _ _ _ h => h) (by rfl) hHeld (fun W hW => ?_) ?_
        · obtain ⟨hW1, hW2, hW3, hW4⟩ := hW
          clear hHeld
          go_simp
        simp only [Act.put, List.setIfInBounds_toArray, List.set_cons_zero, List.set_cons_succ]
        refine take_op 7 (some 47) (.pointer (some ⟨g, 0, none⟩)) rfl rfl (by kernel_rfl) (by kernel_rfl) (by kernel_rfl) (fun _ _ _ h => h) (by rfl) hHeld (fun W hW => ?_) ?_
        · obtain ⟨hW1, hW2, hW3, hW4⟩ := hW
          clear hHeld
          go_simp
        simp only [Act.put, List.setIfInBounds_toArray, List.set_cons_zero, List.set_cons_succ]
        refine take_op 8 (some 48) (.pointer (some ⟨g, 0, none⟩)) rfl rfl (by kernel_rfl) (by kernel_rfl) (by kernel_rfl) (fun _ _ _ h => h) (by rfl) hHeld (fun W hW => ?_) ?_
        · obtain ⟨hW1, hW2, hW3, hW4⟩ := hW
          clear hHeld
          go_simp
        simp only [Act.put, List.setIfInBounds_toArray, List.set_cons_zero, List.set_cons_succ]
        refine take_op 9 (some 49) (.pointer (some ⟨g, 4, none⟩)) rfl rfl (by kernel_rfl) (by kernel_rfl) (by kernel_rfl) (fun _ _ _ h => h) (by rfl) hHeld (fun W hW => ?_) ?_
        · obtain ⟨hW1, hW2, hW3, hW4⟩ := hW
          clear hHeld
          go_simp
        simp only [Act.put, List.setIfInBounds_toArray, List.set_cons_zero, List.set_cons_succ]
        refine take_op 10 (some 50) (.int .i64 (boot : Int)) rfl rfl (by kernel_rfl) (by kernel_rfl) (by kernel_rfl) (fun _ _ _ h => h) (by rfl) hHeld (fun W hW => ?_) ?_
        · obtain ⟨hW1, hW2, hW3, hW4⟩ := hW
          clear hHeld
          go_simp
        simp only [Act.put, List.setIfInBounds_toArray, List.set_cons_zero, List.set_cons_succ]
        refine take_op 11 (some 51) (.int .i64 (PL : Int)) rfl rfl (by kernel_rfl) (by kernel_rfl) (by kernel_rfl) (fun _ _ _ h => h) (by rfl) hHeld (fun W hW => ?_) ?_
        · obtain ⟨hW1, hW2, hW3, hW4⟩ := hW
          clear hHeld
          go_simp
        simp only [Act.put, List.setIfInBounds_toArray, List.set_cons_zero, List.set_cons_succ]
        refine take_op 12 (some 52) (chunkV b off m x) rfl rfl (by kernel_rfl) (by kernel_rfl) (by kernel_rfl) (fun _ _ _ h => h) (by rfl) hHeld (fun W hW => ?_) ?_
        · obtain ⟨hW1, hW2, hW3, hW4⟩ := hW
          clear hHeld
          go_simp
        simp only [Act.put, List.setIfInBounds_toArray, List.set_cons_zero, List.set_cons_succ]
        refine wpAnyH_ready (rs := [6]) (by kernel_rfl) (by simp) (AllReadyH.cons rfl (fun K hK => ?_) AllReadyH.nil)
        have HK := hid hK
        have HHE := hid hHeld
        clear hK hHeld
        go_simp
        refine (number_at (HLm.out.below (Below.drew (Below.refl _ W))) PL hnum8).mono ?_
        rintro r w1 ⟨rfl, rfl⟩
        refine HK.out.out _ _ HHE.out (fun hHeld => ?_)
        clear HK HHE
        try simp only [Act.put, List.setIfInBounds_toArray, List.set_cons_zero, List.set_cons_succ]
        refine wpAnyH_ready (rs := [13]) (by kernel_rfl) (by simp) (AllReadyH.cons rfl (fun K hK => ?_) AllReadyH.nil)
        have HK := hid hK
        have HHE := hid hHeld
        clear hK hHeld
        go_simp
        refine (packed_any boot PL _ (prt f x) _ _ HCL.out.1 hbt (Nat.min_le_left _ _) (HCL.out.2.below (Below.drew (Below.refl _ W)))).mono ?_
        rintro r w2 ⟨y2, rfl, hbu, hb2, hy2⟩
        have hb2 : Below W.heap.size W w2 := below_of_drew hb2
        have hbq2 : ∀ k, (k = q ∨ k = p) → k < W.heap.size := fun k e => by rcases e with rfl | rfl; exact HDm.out.lt.1; exact HDm.out.lt.2
        have hwW : w.heap.size ≤ W.heap.size := HBm.out.size
        have e3 := hb2.block w.heap.size (Array.getElem?_eq_some_iff.1 HH3.out.1).1
        have e10 := hb2.block wr.heap.size (Array.getElem?_eq_some_iff.1 HH3.out.2.1).1
        have e6 := hb2.block (w.heap.size + 1) (Array.getElem?_eq_some_iff.1 HH3.out.2.2).1
        have hH3 := And.intro (e3.trans HH3.out.1) (And.intro (e10.trans HH3.out.2.1) (e6.trans HH3.out.2.2))
        have hL2 := HLm.out.below hb2
        have hD2 := HDm.out.below hb2
        have c3 : w2.cell? ⟨w.heap.size, 0, none⟩ = some (.pointer (some ⟨g, 0, none⟩)) := by rw [cell_of_row w2 _ 0 _ 31 (0, 0) hH3.1]; rfl
        have c10 : w2.cell? ⟨wr.heap.size, 0, none⟩ = some (.int .i64 (PL : Int)) := by rw [cell_of_row w2 _ 0 _ 3 (0, 0) hH3.2.1]; rfl
        refine HK.out.out _ _ ⟨c3, hL2.c0, c10, hL2.c4⟩ (fun hHeld => ?_)
        have HW2 := hid (write_gone (i := num segs PL) hD2 HDE.out HFU.out hnlt (by omega) hbu (sect_len _ _ _ (prt_len _ _)))
        have HB2 := hid hb2
        have HHH := hid hH3
        have HL2 := hid hL2
        have HT2 := hid hD2.tag
        clear HK HHE c3 c10 hbu hb2 hy2 e3 e10 e6 hH3 hL2 hD2
        try simp only [Act.put, List.setIfInBounds_toArray, List.set_cons_zero, List.set_cons_succ]
        refine wpAnyH_ready (rs := [14]) (by kernel_rfl) (by simp) (AllReadyH.cons rfl (fun K hK => ?_) AllReadyH.nil)
        have HK := hid hK
        clear hK hHeld
        go_simp
        refine HW2.out.mono ?_
        rintro r w3 ⟨rfl, hD3, hb3⟩
        have hn3 : ∀ {k : Nat} {t : TypeId}, Tag w2 k t → t ≠ 66 → t ≠ 86 → ¬ (k = q ∨ k = p) := fun {k t} ht h1 h2 e => by rcases e with rfl | rfl; exact ht.ne HT2.out.1 h1 rfl; exact ht.ne HT2.out.2 h2 rfl
        have hk3 : ∀ {k : Nat} {c : Array Value} {t : TypeId}, w2.heap[k]? = some (.cells c t (0, 0)) → t ≠ 66 → t ≠ 86 → w3.heap[k]? = some (.cells c t (0, 0)) := fun {k c t} e h1 h2 => (hb3.block k (Array.getElem?_eq_some_iff.1 e).1 (hn3 ⟨c, e⟩ h1 h2)).trans e
        have hHc := And.intro (hk3 HHH.out.1 (by decide) (by decide)) (And.intro (hk3 HHH.out.2.1 (by decide) (by decide)) (hk3 HHH.out.2.2 (by decide) (by decide)))
        have hL3 := HL2.out.but hb3 (noInts_of (fun k e => by rcases e with rfl | rfl; exact ⟨66, HT2.out.1, by decide⟩; exact ⟨86, HT2.out.2, by decide⟩)) (hn3 HL2.out.tag (by decide) (by decide))
        have c3 : w3.cell? ⟨w.heap.size, 0, none⟩ = some (.pointer (some ⟨g, 0, none⟩)) := by rw [cell_of_row w3 _ 0 _ 31 (0, 0) hHc.1]; rfl
        have c10 : w3.cell? ⟨wr.heap.size, 0, none⟩ = some (.int .i64 (PL : Int)) := by rw [cell_of_row w3 _ 0 _ 3 (0, 0) hHc.2.1]; rfl
        have f10 : w3.frozen? ⟨wr.heap.size, 0, none⟩ = false := frozen_of_row w3 _ 0 _ 3 hHc.2.1
        refine HK.out.out _ _ ⟨c3, hL3.c0, c10, hL3.c4⟩ (fun hHeld => ?_)
        have HKO : Hid (KeepsOthers W w3) := (keeps_of_but (below_but (fun _ => False) HB2.out) (fun _ e => e.elim)).trans (keeps_of_but hb3 (fun k e => by rcases e with rfl | rfl; exact ⟨_, HT2.out.1⟩; exact ⟨_, HT2.out.2⟩))
        have HD3 := hid hD3
        have HB23 := hid hb3
        have HB3 := hid ((HBm.out.trans (below_but (fun _ => False) HB2.out) (fun _ e => e.elim)).trans hb3 (fun k e => .inl e))
        have HHC := hid hHc
        have HLT3 : Hid (W.heap.size ≤ w3.heap.size) := HKO.out.size
        clear HK hD3 hb3 hn3 hk3 hHc hL3 c3 HW2
        try simp only [Act.put, List.setIfInBounds_toArray, List.set_cons_zero, List.set_cons_succ]
        have c6 : w3.cell? ⟨w.heap.size + 1, 0, none⟩ = some (.int .i64 0) := by rw [cell_of_row w3 _ 0 _ 26 (0, 0) HHC.out.2.2]; rfl
        have f6 : w3.frozen? ⟨w.heap.size + 1, 0, none⟩ = false := frozen_of_row w3 _ 0 _ 26 HHC.out.2.2
        refine take_op 15 (some 12) (.int .i64 15) rfl rfl (by kernel_rfl) (by kernel_rfl) (by kernel_rfl) (fun _ _ _ h => h) (by rfl) hHeld (fun W hW => ?_) ?_
        · go_simp
        simp only [Act.put, List.setIfInBounds_toArray, List.set_cons_zero, List.set_cons_succ]
        refine wpAnyH_done (by kernel_rfl) ?_ _
        clear hHeld
        gi_wp2
        have hb5 := (only_setCell w3 (w.heap.size + 1) 0 none (.int .i64 15)).but
        have hlt0 := HD.out.lt
        have hq5 : q ≠ w.heap.size + 1 ∧ p ≠ w.heap.size + 1 := by omega
        have hno : ∀ k, k ≠ w.heap.size + 1 → ¬ (k = w.heap.size + 1 ∨ some k = none) := fun k h e => by rcases e with e | e; exact h e; cases e
        have h6z : (w3.setCell ⟨w.heap.size + 1, 0, none⟩ (.int .i64 15)).heap[w.heap.size + 1]? = some (.cells #[.int .i64 15] 26 (0, 0)) := heap_setCell_same _ _ _ _ _ _ HHC.out.2.2
        exact ⟨HKO.out.trans (keeps_of_but hb5 (fun k e => ⟨26, by rcases e with rfl | e; exact ⟨_, HHC.out.2.2⟩; cases e⟩)), rfl, HD3.out.but hb5 (hno q hq5.1) (hno p hq5.2), h6z, HB3.out.trans hb5 (fun k e => .inr (by rcases e with rfl | e; omega; cases e)), (Array.getElem?_eq_some_iff.1 h6z).1⟩
end Go.Proofs.Yteohjfhflodklaa
namespace Go.Proofs.Yteohjfhflodklaa
open Go.RowKit Pen
open Crc (four nx run)
set_option maxRecDepth 4000
set_option linter.unusedVariables false
/-- How a log, its disk and its space stand, where the fuse of the disk has burnt down. -/
structure Ldie (w : World) (g q p x : Nat) (d : Dk) (k mm : Nat) (segs : List Nat) (n last boot : Nat) : Prop where
  log : LogAt w g q segs n last boot
  disk : DiskAt w q p d
  space : Sp.SpAt w x k (Sp.upTo mm)
  dead : d.dead = false
  fuse : d.fuse = some 0
  room : 8 + 8 * k ≤ d.secs.length
  le : mm ≤ k
  low : ∀ s ∈ segs, s < mm
  fit : n ≤ 8 * segs.length
  few : segs.length ≤ mm
set_option maxRecDepth 20000 in
set_option maxHeartbeats 4000000 in
theorem append_dead {w : World} {g q p x : Nat} {d : Dk} {k mm : Nat} {segs : List Nat} {n last boot : Nat} (h : Ldie w g q p x d k mm segs n last boot) (bt : Nat) (a : Option Addr) (r : List Nat) (l c : Nat) (hl : r.length = l) (hr : Row w a r) (hm : MayBe bt r) (hops : d.ops ≤ 900000) (hroom : segsN (n + secsN r) ≤ segs.length + (k - mm)) :
    Calls Try.prog 16 #[.pointer (some ⟨g, 0, none⟩), .pointer (some ⟨x, 0, none⟩), .int .i64 (bt : Int), .slice a l c] w fun e w' => e = .returned (.int .i64 15) ∧ DiskAt w' q p (gone d) ∧ But (fun j => j = q ∨ j = p ∨ j = x) w w' := by
  obtain ⟨hm1, hm2, _, hm4⟩ := hm
  have c3 := h.log.c3
  have H := hid h
  have HM := hid (make_any last bt a r l c w h.log.last (by omega) hl (by omega) (by omega) hr)
  have HL := hid hl
  have HRO := hid hroom
  have hlen := h.log.len
  have hnle := h.log.nle
  have hk96 := h.space.le
  have hmk := h.le
  have hgl := h.log.glt
  have hfew := h.few
  have hl16 : l ≤ 16384 := by omega
  clear h hr hl hroom
  go_enter Try.func16, Try.ntmps16
  go_wp2_with fail
  refine HM.out.mono ?_
  rintro e w1 ⟨gF, cF, rfl, hmi, hb1⟩
  have c2 := (H.out.log.below hb1).c2
  obtain ⟨a1, c1, hc1, hsr, _, _, hz1⟩ := (H.out.log.below hb1).c1
  have HMI := hid hmi
  have HB1 := hid hb1
  have hq1 : ∀ j, Calls Try.prog 30 #[.int .i64 ((l + 16 : Nat) : Int), .int .i64 54] (w1.drewN j) fun e w' => e = .returned (.int .i64 (cnt (l + 16) : Nat)) ∧ ∃ i, w' = w1.drewN i := fun j => quiet30 (by omega) j
  have hsr1 := hid (And.intro hsr hz1)
  generalize hC : cnt (l + 16) = C at *
  have HCP : Hid (0 < C) := by show _ < _; rw [← hC]; unfold cnt; omega
  have hCle : C ≤ 400 := by rw [← hC]; unfold cnt; omega
  clear HM c3 hmi hb1 hsr hz1
  go_wp2_with fail
  go_quiet (exact hq1 _)
  have hb2 : Below w1.heap.size w1 (w1.drewN nq) := ⟨rfl, rfl, rfl, Nat.le_refl _, fun _ _ => rfl⟩
  have HB2 := hid (below_tr HB1.out hb2 HB1.out.size)
  have c1b : (w1.drewN nq).cell? ⟨g, 1, none⟩ = some (.slice a1 segs.length c1) := hc1
  have HMI2 := hid (HMI.out.below hb2)
  have HSR2 := hid (hsr1.out.1.below hb2)
  generalize w1.drewN nq = w2 at *
  have hq2 : ∀ j, Calls Try.prog 30 #[.int .i64 ((n + C : Nat) : Int), .int .i64 8] (w2.drewN j) fun e w' => e = .returned (.int .i64 ((n + C + 7) / 8 : Nat)) ∧ ∃ i, w' = w2.drewN i := fun j => quiet30' (by omega) j
  generalize hE : n + C = E at *
  have hE' : (n : Int) + (C : Int) = (E : Int) := by omega
  generalize hKK : (E + 7) / 8 = KK at *
  clear hq1 hb2 hc1 c2
  go_wp2_with fail
  go_quiet (exact hq2 _)
  have hb3 : Below w2.heap.size w2 (w2.drewN nq) := ⟨rfl, rfl, rfl, Nat.le_refl _, fun _ _ => rfl⟩
  have HB3 := hid (below_tr HB2.out hb3 HB2.out.size)
  have HMI3 := hid (HMI2.out.below hb3)
  have HSR3 := hid (HSR2.out.below hb3)
  generalize w2.drewN nq = w3 at *
  clear hq2 hb3 c1b HMI2 HSR2 HB2 HB1 HMI
  have hkk : KK ≤ 200 := by omega
  obtain ⟨kk, hkkl⟩ : ∃ kk, segs.length = kk := ⟨_, rfl⟩
  rw [hkkl] at hlen hfew ⊢
  have HKL := hid hkkl
  have HEQ : Hid (segsN (n + secsN r) = KK ∧ n + secsN r = E) := by
    have e1 : secsN r = C := by unfold secsN; rw [HL.out, hC]
    refine ⟨?_, by rw [e1, hE]⟩
    rw [e1, hE]; exact hKK
  have HNE : Hid (n + cnt (l + 16) = E) := by show _ = _; rw [hC, hE]
  have hEle : E ≤ 8 * KK := by omega
  have hEK : E ≤ 1600 := by omega
  have hKp : 0 < KK := by have := HCP.out; omega
  clear hE hKK hC hkkl
  go_wp2_with fail
  refine (Sp.free_any (H.out.space.below HB3.out)).mono ?_
  rintro e w4 ⟨rfl, n4, rfl⟩
  rw [nfree_upTo mm k hk96]
  have hb4 : Below w3.heap.size w3 (w3.drewN n4) := ⟨rfl, rfl, rfl, Nat.le_refl _, fun _ _ => rfl⟩
  have HB4 := hid (below_tr HB3.out hb4 HB3.out.size)
  have HMI4 := hid (HMI3.out.below hb4)
  have HSR4 := hid (HSR3.out.below hb4)
  generalize w3.drewN n4 = w4 at *
  clear hb4 HB3 HMI3 HSR3
  by_cases hfull : KK ≤ kk + (k - mm)
  · have hf' : ¬ ((k - mm : Nat) : Int) < (KK : Int) - (kk : Int) := by omega
    have HFU : Hid (segsN (n + secsN r) ≤ segs.length + (k - mm)) := by show _ ≤ _; rw [HEQ.out.1, HKL.out]; exact hfull
    go_wp2_with fail
    refine (take_segs (H.out.space.below HB4.out) ((KK : Int) - (kk : Int)) (by omega) (by omega)).mono ?_
    rintro e w5 ⟨v5, rfl, hov, hsp5, hb5⟩
    obtain ⟨zt, hzt⟩ : ∃ zt, KK - kk = zt := ⟨_, rfl⟩
    rw [show ((KK : Int) - (kk : Int)).toNat = zt by omega] at hov hsp5
    have hxt := (H.out.space.below HB4.out).tag
    have hgx : g ≠ x := H.out.log.tag.ne H.out.space.tag (by decide)
    have hni : NoInts (fun j => j = x) w4 := noInts_of (fun j e => ⟨69, e ▸ hxt, by decide⟩)
    have hL5 := (H.out.log.below HB4.out).but hb5 hni hgx
    have hR5 := (HMI4.out.row.2).but hb5 (fun v e => by simp at e; subst e; simp only; have := HMI4.out.row; have h2 := H.out.space.lt; have h3 := owns_block HMI4.out.2.2 gF rfl; omega)
    obtain ⟨a5, c5, rfl, hsr5, hc5, hm5, hz5⟩ := srow_of_owns hov
    rw [iv_len, List.length_range'] at hc5 ⊢
    obtain ⟨a1', c1', hc1', hsr1', hc1l, hc1m, hz1'⟩ := hL5.c1
    rw [HKL.out] at hc1' hc1l
    have hc0 := hL5.c0
    have HQ := hid (And.intro hL5 (And.intro hR5 (And.intro hsp5 hb5)))
    have HS1 := hid (And.intro hsr1' hsr5)
    clear hov hsp5 hb5 hxt hni hL5 hR5 hsr5 hsr1'
    go_wp2_with fail
    refine Go.wp_mono (Q := fun e a' w' => e = Exit.normal ∧ ∃ v69 v70 v74 G, a' = { tmps := #[Value.pointer (some { block := g, off := 0 }), Value.pointer (some { block := x, off := 0 }), Value.int IntKind.i64 ↑bt, Value.slice a l c, undef, undef, undef, undef, Value.int IntKind.i64 0, Value.slice (some { block := gF, off := 0 }) (l + 16) cF, Value.int IntKind.u32 ↑(nx last r), Value.int IntKind.i64 0, Value.int IntKind.i64 ↑E, Value.int IntKind.i64 (↑KK - ↑kk), Value.slice a5 zt c5, Value.pointer (some { block := G, off := 0 }), undef, Value.pointer (some { block := g, off := 0 }), Value.bool false, Value.bool false, Value.pointer (some { block := x, off := 0 }), Value.bool false, Value.bool false, Value.tuple #[Value.slice (some { block := gF, off := 0 }) (l + 16) cF, Value.int IntKind.u32 ↑(nx last r), Value.int IntKind.i64 0], Value.pointer (some { block := g, off := 0 }), Value.pointer (some { block := g, off := 0 }), Value.pointer (some { block := g, off := 3 }), Value.int IntKind.u32 ↑last, Value.int IntKind.i64 ↑bt, Value.slice a l c, Value.tuple #[Value.slice (some { block := gF, off := 0 }) (l + 16) cF, Value.int IntKind.u32 ↑(nx last r), Value.int IntKind.i64 0], Value.slice (some { block := gF, off := 0 }) (l + 16) cF, Value.int IntKind.u32 ↑(nx last r), Value.int IntKind.i64 0, Value.int IntKind.i64 0, Value.bool false, undef, Value.pointer (some { block := g, off := 0 }), Value.pointer (some { block := g, off := 0 }), Value.pointer (some { block := g, off := 2 }), Value.int IntKind.i64 ↑n, Value.slice (some { block := gF, off := 0 }) (l + 16) cF, Value.int IntKind.i64 (↑l + 16), Value.int IntKind.i64 ↑C, Value.int IntKind.i64 ↑E, Value.int IntKind.i64 ↑E, Value.int IntKind.i64 ↑KK, Value.pointer (some { block := g, off := 0 }), Value.pointer (some { block := g, off := 0 }), Value.pointer (some { block := g, off := 1 }), Value.slice a1 kk c1, Value.int IntKind.i64 ↑kk, Value.int IntKind.i64 (↑KK - ↑kk), Value.int IntKind.i64 (↑KK - ↑kk), Value.pointer (some { block := x, off := 0 }), Value.int IntKind.i64 ↑(k - mm), Value.bool (decide (((k - mm : Nat) : Int) < (KK : Int) - (kk : Int))), Value.pointer (some { block := x, off := 0 }), Value.int IntKind.i64 (↑KK - ↑kk), Value.slice a5 zt c5, Value.pointer (some { block := g, off := 0 }), Value.pointer (some { block := g, off := 0 }), Value.pointer (some { block := g, off := 0 }), Value.pointer (some { block := q, off := 0 }), Value.pointer (some { block := g, off := 0 }), Value.pointer (some { block := g, off := 0 }), Value.pointer (some { block := g, off := 1 }), Value.slice a1' kk c1', Value.slice a5 zt c5, v69, v70, Value.int IntKind.i64 ↑E, Value.int IntKind.u32 ↑(nx last r), Value.int IntKind.i64 ↑bt, v74, undef, undef, undef, undef, undef, undef, undef, undef, undef, undef, undef, undef, undef, undef, undef], defers := [] } ∧ Grown q segs (List.range' mm zt) E (nx last r) bt w5 w' G) ?region ?rest
    case region =>
      have hlr : (List.range' mm zt).length = zt := List.length_range' ..
      have HLR := hid hlr
      have hgl5 : g < w5.heap.size := HQ.out.1.glt
      have hE0 : 0 < kk + zt := by omega
      clear hlr
      refine wp_region_held_drew (S := (fun V => V.cell? ⟨g, 0, none⟩ = some (.pointer (some ⟨q, 0, none⟩)) ∧ V.cell? ⟨g, 1, none⟩ = some (.slice a1' kk c1'))) (by kernel_rfl) ⟨hc0, hc1'⟩ (fun hHeld => ?_)
      refine take_op 0 (some 60) (Value.pointer (some { block := g, off := 0 })) rfl rfl (by kernel_rfl) (by kernel_rfl) (by kernel_rfl) (fun _ _ _ h => by cases h.1) (by rfl) hHeld (fun W hW => ?_) ?_
      · obtain ⟨hW1, hW2⟩ := hW
        clear hHeld
        go_simp
      simp only [Act.put, List.setIfInBounds_toArray, List.set_cons_zero, List.set_cons_succ]
      refine take_op 1 (some 61) (Value.pointer (some { block := g, off := 0 })) rfl rfl (by kernel_rfl) (by kernel_rfl) (by kernel_rfl) (fun _ _ _ h => by cases h.1) (by rfl) hHeld (fun W hW => ?_) ?_
      · obtain ⟨hW1, hW2⟩ := hW
        clear hHeld
        go_simp
      simp only [Act.put, List.setIfInBounds_toArray, List.set_cons_zero, List.set_cons_succ]
      refine take_op 2 (some 62) (Value.pointer (some { block := g, off := 0 })) rfl rfl (by kernel_rfl) (by kernel_rfl) (by kernel_rfl) (fun _ _ _ h => by cases h.1) (by rfl) hHeld (fun W hW => ?_) ?_
      · obtain ⟨hW1, hW2⟩ := hW
        clear hHeld
        go_simp
      simp only [Act.put, List.setIfInBounds_toArray, List.set_cons_zero, List.set_cons_succ]
      refine take_op 3 (some 63) (Value.pointer (some { block := q, off := 0 })) rfl rfl (by kernel_rfl) (by kernel_rfl) (by kernel_rfl) (fun _ _ _ h => by cases h.1) (by rfl) hHeld (fun W hW => ?_) ?_
      · obtain ⟨hW1, hW2⟩ := hW
        clear hHeld
        go_simp
      simp only [Act.put, List.setIfInBounds_toArray, List.set_cons_zero, List.set_cons_succ]
      refine take_op 4 (some 64) (Value.pointer (some { block := g, off := 0 })) rfl rfl (by kernel_rfl) (by kernel_rfl) (by kernel_rfl) (fun _ _ _ h => by cases h.1) (by rfl) hHeld (fun W hW => ?_) ?_
      · obtain ⟨hW1, hW2⟩ := hW
        clear hHeld
        go_simp
      simp only [Act.put, List.setIfInBounds_toArray, List.set_cons_zero, List.set_cons_succ]
      refine take_op 5 (some 65) (Value.pointer (some { block := g, off := 0 })) rfl rfl (by kernel_rfl) (by kernel_rfl) (by kernel_rfl) (fun _ _ _ h => by cases h.1) (by rfl) hHeld (fun W hW => ?_) ?_
      · obtain ⟨hW1, hW2⟩ := hW
        clear hHeld
        go_simp
      simp only [Act.put, List.setIfInBounds_toArray, List.set_cons_zero, List.set_cons_succ]
      refine take_op 6 (some 66) (Value.pointer (some { block := g, off := 1 })) rfl rfl (by kernel_rfl) (by kernel_rfl) (by kernel_rfl) (fun _ _ _ h => by cases h.1) (by rfl) hHeld (fun W hW => ?_) ?_
      · obtain ⟨hW1, hW2⟩ := hW
        clear hHeld
        go_simp
      simp only [Act.put, List.setIfInBounds_toArray, List.set_cons_zero, List.set_cons_succ]
      refine take_op 7 (some 67) (Value.slice a1' kk c1') rfl rfl (by kernel_rfl) (by kernel_rfl) (by kernel_rfl) (fun _ _ _ h => by cases h.1) (by rfl) hHeld (fun W hW => ?_) ?_
      · obtain ⟨hW1, hW2⟩ := hW
        clear hHeld
        go_simp
      simp only [Act.put, List.setIfInBounds_toArray, List.set_cons_zero, List.set_cons_succ]
      refine take_op 8 (some 68) (Value.slice a5 zt c5) rfl rfl (by kernel_rfl) (by kernel_rfl) (by kernel_rfl) (fun _ _ _ h => by cases h.1) (by rfl) hHeld (fun W hW => ?_) ?_
      · obtain ⟨hW1, hW2⟩ := hW
        clear hHeld
        go_simp
      simp only [Act.put, List.setIfInBounds_toArray, List.set_cons_zero, List.set_cons_succ]
      refine take_op 11 (some 71) (Value.int IntKind.i64 ↑E) rfl rfl (by kernel_rfl) (by kernel_rfl) (by kernel_rfl) (fun _ _ _ h => by cases h.1) (by rfl) hHeld (fun W hW => ?_) ?_
      · obtain ⟨hW1, hW2⟩ := hW
        clear hHeld
        go_simp
      simp only [Act.put, List.setIfInBounds_toArray, List.set_cons_zero, List.set_cons_succ]
      refine take_op 12 (some 72) (Value.int IntKind.u32 ↑(nx last r)) rfl rfl (by kernel_rfl) (by kernel_rfl) (by kernel_rfl) (fun _ _ _ h => by cases h.1) (by rfl) hHeld (fun W hW => ?_) ?_
      · obtain ⟨hW1, hW2⟩ := hW
        clear hHeld
        go_simp
      simp only [Act.put, List.setIfInBounds_toArray, List.set_cons_zero, List.set_cons_succ]
      refine take_op 13 (some 73) (Value.int IntKind.i64 ↑bt) rfl rfl (by kernel_rfl) (by kernel_rfl) (by kernel_rfl) (fun _ _ _ h => by cases h.1) (by rfl) hHeld (fun W hW => ?_) ?_
      · obtain ⟨hW1, hW2⟩ := hW
        clear hHeld
        go_simp
      simp only [Act.put, List.setIfInBounds_toArray, List.set_cons_zero, List.set_cons_succ]
      have HBw5d : Hid (Below w5.heap.size w5 w5.drew) := Below.drew (Below.refl _ w5)
      obtain ⟨D5, hD5⟩ : ∃ D5, w5.drew = D5 := ⟨_, rfl⟩
      rw [hD5] at HBw5d
      have HBD5 := HBw5d
      have hsD : w5.heap.size = D5.heap.size := by rw [← hD5]; rfl
      refine wpAnyH_ready (rs := [9, 15]) (by kernel_rfl) (by simp) (AllReadyH.cons rfl (fun K hK => ?_) (AllReadyH.cons rfl (fun K hK => ?_) AllReadyH.nil))
      · have HK := hid hK
        have HHE := hid hHeld
        clear hK hHeld
        go_simp
        have hbV1 : Below D5.heap.size D5 (D5.alloc (.cells #[.slice a1' kk c1', .slice a5 zt c5] 33)) := (Below.refl _ D5).alloc (Nat.le_refl _) _
        have hnV1 := heap_alloc_new D5 (.cells #[.slice a1' kk c1', .slice a5 zt c5] 33)
        have HBV1 := hid (below_tr HBD5.out hbV1 HBD5.out.size)
        have hzV1 : D5.heap.size < (D5.alloc (.cells #[.slice a1' kk c1', .slice a5 zt c5] 33)).heap.size := by simp
        have hpV1 : Pair2 (D5.alloc (.cells #[.slice a1' kk c1', .slice a5 zt c5] 33)) D5.heap.size a1' a5 kk c1' zt c5 := hnV1
        generalize D5.alloc (.cells #[.slice a1' kk c1', .slice a5 zt c5] 33) = V1 at *
        refine HK.out.out _ _ ⟨(HBV1.out.cell (p := ⟨g, 0, none⟩) hgl5).trans hc0, (HBV1.out.cell (p := ⟨g, 1, none⟩) hgl5).trans hc1'⟩ (fun hHeld => ?_)
        clear HK HHE
        try simp only [Act.put, List.setIfInBounds_toArray, List.set_cons_zero, List.set_cons_succ]
        refine wpAnyH_ready (rs := [10, 15]) (by kernel_rfl) (by simp) (AllReadyH.cons rfl (fun K hK => ?_) (AllReadyH.cons rfl (fun K hK => ?_) AllReadyH.nil))
        · have HK := hid hK
          have HHE := hid hHeld
          clear hK hHeld
          go_simp
          refine (concat_any a1' a5 (iv segs) (iv (List.range' mm zt)) kk c1' zt c5 hpV1 (by rw [iv_len, HKL.out]) (by rw [iv_len, HLR.out]) (HS1.out.1.below HBV1.out).irow (HS1.out.2.below HBV1.out).irow hE0 (by omega) (by omega)).mono ?_
          rintro e V2 ⟨a6, c6, rfl, hsr6, hc6, hm6, hz6, hbV2⟩
          have HBV2 := hid (below_tr HBV1.out hbV2 HBV1.out.size)
          refine HK.out.out _ _ ⟨(HBV2.out.cell (p := ⟨g, 0, none⟩) hgl5).trans hc0, (HBV2.out.cell (p := ⟨g, 1, none⟩) hgl5).trans hc1'⟩ (fun hHeld => ?_)
          clear HK HHE
          try simp only [Act.put, List.setIfInBounds_toArray, List.set_cons_zero, List.set_cons_succ]
          refine take_op 14 (some 74) (.agg (lgCells q a6 (kk + zt) c6 E (nx last r) bt)) rfl rfl (by kernel_rfl) (by kernel_rfl) (by kernel_rfl) (fun _ _ _ h => by cases h.1) (by rfl) hHeld (fun W hW => ?_) ?_
          · obtain ⟨hW1, hW2⟩ := hW
            clear hHeld
            go_simp
            try rfl
          try simp only [Act.put, List.setIfInBounds_toArray, List.set_cons_zero, List.set_cons_succ]
          refine wpAnyH_ready (rs := [15]) (by kernel_rfl) (by simp) (AllReadyH.cons rfl (fun K hK => ?_) AllReadyH.nil)
          · have HK := hid hK
            have HHE := hid hHeld
            clear hK hHeld
            go_simp
            have hbV3 : Below V2.heap.size V2 (V2.alloc (.cells #[.pointer none, .slice none 0 0, .int .i64 0, .int .u32 0, .int .i64 0] 71)) := (Below.refl _ V2).alloc (Nat.le_refl _) _
            have hnV3 := heap_alloc_new V2 (.cells #[.pointer none, .slice none 0 0, .int .i64 0, .int .u32 0, .int .i64 0] 71)
            have HBV3 := hid (below_tr HBV2.out hbV3 HBV2.out.size)
            have hzV3 : V2.heap.size < (V2.alloc (.cells #[.pointer none, .slice none 0 0, .int .i64 0, .int .u32 0, .int .i64 0] 71)).heap.size := by simp
            have hsr7 := hsr6.below hbV3
            generalize V2.alloc (.cells #[.pointer none, .slice none 0 0, .int .i64 0, .int .u32 0, .int .i64 0] 71) = V3 at *
            refine HK.out.out _ _ ⟨(HBV3.out.cell (p := ⟨g, 0, none⟩) hgl5).trans hc0, (HBV3.out.cell (p := ⟨g, 1, none⟩) hgl5).trans hc1'⟩ (fun hHeld => ?_)
            clear HK HHE
            try simp only [Act.put, List.setIfInBounds_toArray, List.set_cons_zero, List.set_cons_succ]
            have HFI := grown_store (q := q) (l1 := segs) (l2 := List.range' mm zt) (E := E) (last := nx last r) (bt := bt) (w := w5) hnV3 hsr7 (by rw [HKL.out, HLR.out]; exact hc6) hm6 hz6 HBV3.out (Nat.le_trans HBV1.out.size (by have := hbV2.size; omega))
            rw [HKL.out, HLR.out] at HFI
            refine ready_store 16 none rfl rfl (by kernel_rfl) (by rfl) 71 _ _ rfl _ (store71z q a6 (kk + zt) c6 E (nx last r) bt hnV3) ?_ ?_
            · obtain ⟨_, _, _, _, _, _, _, hbb, _⟩ := HFI
              exact ⟨(hbb.cell (p := ⟨g, 0, none⟩) hgl5).trans hc0, (hbb.cell (p := ⟨g, 1, none⟩) hgl5).trans hc1'⟩
            try simp only [Act.put]
            exact wpAnyH_done (by kernel_rfl) ⟨rfl, _, _, _, _, rfl, HFI⟩ _
        · have HK := hid hK
          have HHE := hid hHeld
          clear hK hHeld
          go_simp
          have hbV2 : Below V1.heap.size V1 (V1.alloc (.cells #[.pointer none, .slice none 0 0, .int .i64 0, .int .u32 0, .int .i64 0] 71)) := (Below.refl _ V1).alloc (Nat.le_refl _) _
          have hnV2 := heap_alloc_new V1 (.cells #[.pointer none, .slice none 0 0, .int .i64 0, .int .u32 0, .int .i64 0] 71)
          have HBV2 := hid (below_tr HBV1.out hbV2 HBV1.out.size)
          have hzV2 : V1.heap.size < (V1.alloc (.cells #[.pointer none, .slice none 0 0, .int .i64 0, .int .u32 0, .int .i64 0] 71)).heap.size := by simp
          have hpV2 := hpV1.below hbV2
          generalize V1.alloc (.cells #[.pointer none, .slice none 0 0, .int .i64 0, .int .u32 0, .int .i64 0] 71) = V2 at *
          refine HK.out.out _ _ ⟨(HBV2.out.cell (p := ⟨g, 0, none⟩) hgl5).trans hc0, (HBV2.out.cell (p := ⟨g, 1, none⟩) hgl5).trans hc1'⟩ (fun hHeld => ?_)
          clear HK HHE
          try simp only [Act.put, List.setIfInBounds_toArray, List.set_cons_zero, List.set_cons_succ]
          refine wpAnyH_ready (rs := [10]) (by kernel_rfl) (by simp) (AllReadyH.cons rfl (fun K hK => ?_) AllReadyH.nil)
          · have HK := hid hK
            have HHE := hid hHeld
            clear hK hHeld
            go_simp
            refine (concat_any a1' a5 (iv segs) (iv (List.range' mm zt)) kk c1' zt c5 hpV2 (by rw [iv_len, HKL.out]) (by rw [iv_len, HLR.out]) (HS1.out.1.below HBV2.out).irow (HS1.out.2.below HBV2.out).irow hE0 (by omega) (by omega)).mono ?_
            rintro e V3 ⟨a6, c6, rfl, hsr6, hc6, hm6, hz6, hbV3⟩
            have HBV3 := hid (below_tr HBV2.out hbV3 HBV2.out.size)
            refine HK.out.out _ _ ⟨(HBV3.out.cell (p := ⟨g, 0, none⟩) hgl5).trans hc0, (HBV3.out.cell (p := ⟨g, 1, none⟩) hgl5).trans hc1'⟩ (fun hHeld => ?_)
            clear HK HHE
            try simp only [Act.put, List.setIfInBounds_toArray, List.set_cons_zero, List.set_cons_succ]
            refine take_op 14 (some 74) (.agg (lgCells q a6 (kk + zt) c6 E (nx last r) bt)) rfl rfl (by kernel_rfl) (by kernel_rfl) (by kernel_rfl) (fun _ _ _ h => by cases h.1) (by rfl) hHeld (fun W hW => ?_) ?_
            · obtain ⟨hW1, hW2⟩ := hW
              clear hHeld
              go_simp
              try rfl
            try simp only [Act.put, List.setIfInBounds_toArray, List.set_cons_zero, List.set_cons_succ]
            have HFI := grown_store (q := q) (l1 := segs) (l2 := List.range' mm zt) (E := E) (last := nx last r) (bt := bt) (w := w5) ((hbV3.block _ hzV2).trans hnV2) hsr6 (by rw [HKL.out, HLR.out]; exact hc6) hm6 hz6 HBV3.out HBV1.out.size
            rw [HKL.out, HLR.out] at HFI
            refine ready_store 16 none rfl rfl (by kernel_rfl) (by rfl) 71 _ _ rfl _ (store71z q a6 (kk + zt) c6 E (nx last r) bt ((hbV3.block _ hzV2).trans hnV2)) ?_ ?_
            · obtain ⟨_, _, _, _, _, _, _, hbb, _⟩ := HFI
              exact ⟨(hbb.cell (p := ⟨g, 0, none⟩) hgl5).trans hc0, (hbb.cell (p := ⟨g, 1, none⟩) hgl5).trans hc1'⟩
            try simp only [Act.put]
            exact wpAnyH_done (by kernel_rfl) ⟨rfl, _, _, _, _, rfl, HFI⟩ _
      · have HK := hid hK
        have HHE := hid hHeld
        clear hK hHeld
        go_simp
        have hbV1 : Below D5.heap.size D5 (D5.alloc (.cells #[.pointer none, .slice none 0 0, .int .i64 0, .int .u32 0, .int .i64 0] 71)) := (Below.refl _ D5).alloc (Nat.le_refl _) _
        have hnV1 := heap_alloc_new D5 (.cells #[.pointer none, .slice none 0 0, .int .i64 0, .int .u32 0, .int .i64 0] 71)
        have HBV1 := hid (below_tr HBD5.out hbV1 HBD5.out.size)
        have hzV1 : D5.heap.size < (D5.alloc (.cells #[.pointer none, .slice none 0 0, .int .i64 0, .int .u32 0, .int .i64 0] 71)).heap.size := by simp
        generalize D5.alloc (.cells #[.pointer none, .slice none 0 0, .int .i64 0, .int .u32 0, .int .i64 0] 71) = V1 at *
        refine HK.out.out _ _ ⟨(HBV1.out.cell (p := ⟨g, 0, none⟩) hgl5).trans hc0, (HBV1.out.cell (p := ⟨g, 1, none⟩) hgl5).trans hc1'⟩ (fun hHeld => ?_)
        clear HK HHE
        try simp only [Act.put, List.setIfInBounds_toArray, List.set_cons_zero, List.set_cons_succ]
        refine wpAnyH_ready (rs := [9]) (by kernel_rfl) (by simp) (AllReadyH.cons rfl (fun K hK => ?_) AllReadyH.nil)
        · have HK := hid hK
          have HHE := hid hHeld
          clear hK hHeld
          go_simp
          have hbV2 : Below V1.heap.size V1 (V1.alloc (.cells #[.slice a1' kk c1', .slice a5 zt c5] 33)) := (Below.refl _ V1).alloc (Nat.le_refl _) _
          have hnV2 := heap_alloc_new V1 (.cells #[.slice a1' kk c1', .slice a5 zt c5] 33)
          have HBV2 := hid (below_tr HBV1.out hbV2 HBV1.out.size)
          have hzV2 : V1.heap.size < (V1.alloc (.cells #[.slice a1' kk c1', .slice a5 zt c5] 33)).heap.size := by simp
          have hpV2 : Pair2 (V1.alloc (.cells #[.slice a1' kk c1', .slice a5 zt c5] 33)) V1.heap.size a1' a5 kk c1' zt c5 := hnV2
          generalize V1.alloc (.cells #[.slice a1' kk c1', .slice a5 zt c5] 33) = V2 at *
          refine HK.out.out _ _ ⟨(HBV2.out.cell (p := ⟨g, 0, none⟩) hgl5).trans hc0, (HBV2.out.cell (p := ⟨g, 1, none⟩) hgl5).trans hc1'⟩ (fun hHeld => ?_)
          clear HK HHE
          try simp only [Act.put, List.setIfInBounds_toArray, List.set_cons_zero, List.set_cons_succ]
          refine wpAnyH_ready (rs := [10]) (by kernel_rfl) (by simp) (AllReadyH.cons rfl (fun K hK => ?_) AllReadyH.nil)
          · have HK := hid hK
            have HHE := hid hHeld
            clear hK hHeld
            go_simp
            refine (concat_any a1' a5 (iv segs) (iv (List.range' mm zt)) kk c1' zt c5 hpV2 (by rw [iv_len, HKL.out]) (by rw [iv_len, HLR.out]) (HS1.out.1.below HBV2.out).irow (HS1.out.2.below HBV2.out).irow hE0 (by omega) (by omega)).mono ?_
            rintro e V3 ⟨a6, c6, rfl, hsr6, hc6, hm6, hz6, hbV3⟩
            have HBV3 := hid (below_tr HBV2.out hbV3 HBV2.out.size)
            refine HK.out.out _ _ ⟨(HBV3.out.cell (p := ⟨g, 0, none⟩) hgl5).trans hc0, (HBV3.out.cell (p := ⟨g, 1, none⟩) hgl5).trans hc1'⟩ (fun hHeld => ?_)
            clear HK HHE
            try simp only [Act.put, List.setIfInBounds_toArray, List.set_cons_zero, List.set_cons_succ]
            refine take_op 14 (some 74) (.agg (lgCells q a6 (kk + zt) c6 E (nx last r) bt)) rfl rfl (by kernel_rfl) (by kernel_rfl) (by kernel_rfl) (fun _ _ _ h => by cases h.1) (by rfl) hHeld (fun W hW => ?_) ?_
            · obtain ⟨hW1, hW2⟩ := hW
              clear hHeld
              go_simp
              try rfl
            try simp only [Act.put, List.setIfInBounds_toArray, List.set_cons_zero, List.set_cons_succ]
            have HFI := grown_store (q := q) (l1 := segs) (l2 := List.range' mm zt) (E := E) (last := nx last r) (bt := bt) (w := w5) ((hbV3.block _ (by omega)).trans ((hbV2.block _ hzV1).trans hnV1)) hsr6 (by rw [HKL.out, HLR.out]; exact hc6) hm6 hz6 HBV3.out (by omega)
            rw [HKL.out, HLR.out] at HFI
            refine ready_store 16 none rfl rfl (by kernel_rfl) (by rfl) 71 _ _ rfl _ (store71z q a6 (kk + zt) c6 E (nx last r) bt ((hbV3.block _ (by omega)).trans ((hbV2.block _ hzV1).trans hnV1))) ?_ ?_
            · obtain ⟨_, _, _, _, _, _, _, hbb, _⟩ := HFI
              exact ⟨(hbb.cell (p := ⟨g, 0, none⟩) hgl5).trans hc0, (hbb.cell (p := ⟨g, 1, none⟩) hgl5).trans hc1'⟩
            try simp only [Act.put]
            exact wpAnyH_done (by kernel_rfl) ⟨rfl, _, _, _, _, rfl, HFI⟩ _
    case rest =>
      rintro e a' w6 ⟨rfl, v69, v70, v74, G, rfl, hG⟩
      obtain ⟨a6, c6, hG1, hG2, hG3, hG4, hG5, hG6, hG7⟩ := hG
      obtain ⟨hL5, hR5, hsp5, hb5⟩ := HQ.out
      have hL6 := hL5.below hG6
      have c2 := hL6.c2
      have hlr : (List.range' mm zt).length = zt := List.length_range' ..
      have hgl6 : g < w6.heap.size := hL6.glt
      have hD6 : DiskAt w6 q p d := ((H.out.disk.below HB4.out).but hb5 (fun e => H.out.space.tag.ne H.out.disk.tag.1 (by decide) e.symm) (fun e => H.out.space.tag.ne H.out.disk.tag.2 (by decide) e.symm)).below hG6
      have hsp6 := hsp5.below hG6
      have hR6 := hR5.below hG6
      have hGlt : G < w6.heap.size := (Array.getElem?_eq_some_iff.1 hG1).1
      have h0lt : w.heap.size ≤ w5.heap.size := Nat.le_trans HB4.out.size hb5.size
      have hlow : ∀ s ∈ segs ++ List.range' mm zt, s < mm + zt := fun s hs => by
        rcases List.mem_append.1 hs with hs | hs
        · have := H.out.low s hs; omega
        · have := List.mem_range'.1 hs; obtain ⟨i, hi, rfl⟩ := this; omega
      have hmz : mm + zt ≤ k := by omega
      have hEfit : E ≤ 8 * (kk + zt) := by omega
      have hLG : LogAt w6 G q (segs ++ List.range' mm zt) E (nx last r) bt := ⟨⟨a6, c6, by rw [List.length_append]; exact hG1, by rw [iv_app]; exact hG2, by rw [List.length_append]; exact hG3, hG4, hG5⟩, fun s hs => by have := hlow s hs; omega, by rw [List.length_append, HKL.out, hlr]; omega, Crc.nx_lt _ _, by omega, by omega⟩
      have hHas : Has d (segs ++ List.range' mm zt) := fun s hs => by
        have := hlow s hs
        have h3 := H.out.room
        omega
      have hgF : w.heap.size ≤ gF := owns_block HMI4.out.2.2 gF rfl
      have hdl := H.out.disk.lt
      have HW := hid (lwrite_dead hLG hD6 H.out.dead H.out.fuse hHas (by rw [List.length_append, HKL.out, hlr]; exact hEfit) gF 0 (l + 16) cF (mk last bt r) hR6 HMI4.out.1 HMI4.out.row.1 (by omega) n HNE.out (by omega) ⟨by omega, by omega⟩ (by omega))
      have hsg6 := HS1.out.2.below hG6
      have HF := hid (And.intro hL6 (And.intro hsp6 hsg6))
      have HX := hid (And.intro hlow (And.intro hHas (And.intro hmz hEfit)))
      have HBW : Hid (But (fun j => j = x) w w6) := ((below_but (fun j => j = x) HB4.out).trans hb5 (fun k e => .inl e)).trans (below_but (fun _ => False) hG6) (fun _ e => e.elim)
      have HRL := hid hlr
      have HDT := hid hD6.tag
      clear hL5 hR5 hsp5 hb5 hL6 hD6 hsp6 hR6 hLG hHas hlow hG1 hG2 hG6 hsg6
      go_wp2_with fail
      refine HW.out.mono ?_
      rintro e w7 ⟨rfl, hD7, hb7⟩
      obtain ⟨hL6, hsp6, hsg6⟩ := HF.out
      have hnq : ∀ {j t : Nat}, Tag w6 j t → t ≠ 66 → t ≠ 86 → ¬ (j = q ∨ j = p) := fun {j t} ht h1 h2 e => by
        have h9 := HDT.out
        rcases e with rfl | rfl
        · exact ht.ne h9.1 h1 rfl
        · exact ht.ne h9.2 h2 rfl
      have hni6 : NoInts (fun j => j = q ∨ j = p) w6 := noInts_of (fun j e => by rcases e with rfl | rfl; exact ⟨66, HDT.out.1, by decide⟩; exact ⟨86, HDT.out.2, by decide⟩)
      have hsp7 := hsp6.but hb7 (hnq hsp6.tag (by decide) (by decide))
      have hsg7 := hsg6.but hb7 hni6
      have HGV := hid (give_segs hsp7 a5 (List.range' mm zt) zt c5 HRL.out hsg7 (fun s hs => by obtain ⟨i, hi, rfl⟩ := List.mem_range'.1 hs; have := HX.out.2.2.1; omega) (by omega))
      have HD7 := hid hD7
      have hqx : ∀ j, (j = q ∨ j = p) → j ≠ x := fun j e e2 => by
        rcases e with e | e
        · exact hsp7.tag.ne hD7.tag.1 (by decide) (e2.symm.trans e)
        · exact hsp7.tag.ne hD7.tag.2 (by decide) (e2.symm.trans e)
      have HB7 : Hid (But (fun j => j = q ∨ j = p ∨ j = x) w w7) := But.trans (T := fun j => j = q ∨ j = p) (HBW.out.mono (T := fun j => j = q ∨ j = p ∨ j = x) (fun j e => .inl (.inr (.inr e)))) hb7 (fun j e => .inl (by rcases e with e | e; exact .inl e; exact .inr (.inl e)))
      have HQX := hid hqx
      clear hb7 hnq hni6 hsp7 hsg7 hsp6 hsg6 hL6 hD7 hqx
      go_wp2_with fail
      refine HGV.out.mono ?_
      rintro e w8 ⟨rfl, _, hb8⟩
      have HB8 := hid (HB7.out.trans hb8 (fun j e => .inl (.inr (.inr e))))
      have HD8 := hid (HD7.out.but hb8 (fun e => HQX.out q (.inl rfl) e) (fun e => HQX.out p (.inr rfl) e))
      clear hb8
      go_wp2_with fail
      go_ret
      exact ⟨rfl, HD8.out, HB8.out⟩
  · exact absurd HRO.out (by rw [HEQ.out.1, HKL.out]; exact hfull)
end Go.Proofs.Yteohjfhflodklaa
