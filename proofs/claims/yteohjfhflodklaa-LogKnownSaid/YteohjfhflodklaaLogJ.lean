/- What look of log does: the text that the sectors have room for, and each one's boot. Condition: the disk has the segments and is not dead. -/
import Derived.Test.YteohjfhflodklaaLogH
import Derived.Test.YteohjfhflodklaaLogD
namespace Go.Proofs.Yteohjfhflodklaa
open Go.RowKit Pen
set_option maxRecDepth 4000
/-- The bytes at each place of the log. -/
def pl (d : Dk) (segs : List Nat) (i : Nat) : List Nat := d.read (num segs i)
def bts (D : Nat → List Nat) (n m : Nat) : List Int := (List.range m).map fun i => sb (D (n + i)) (n + i)
theorem bts_len (D : Nat → List Nat) (n m : Nat) : (bts D n m).length = m := by simp [bts]
theorem bts_succ (D : Nat → List Nat) (n m : Nat) : bts D n (m + 1) = bts D n m ++ [sb (D (n + m)) (n + m)] := by simp [bts, List.range_succ]
theorem bts_get (D : Nat → List Nat) (n m i : Nat) (h : i < m) : (bts D n m).getD i 0 = sb (D (n + i)) (n + i) := by simp [bts, h]
theorem num_lt {d : Dk} {segs : List Nat} (hs : Has d segs) {i : Nat} (hi : i < 8 * segs.length) : num segs i < d.secs.length := by
  have hm : segs.getD (i / 8) 0 ∈ segs := by
    have : i / 8 < segs.length := by omega
    simp [this]
  have := hs _ hm
  unfold num
  omega
theorem owns_apart {w : World} {b b' s t n m : Nat} {v u : Value} {xs ys : List Value} (h : w.ownsRow b s 1 v n xs) (h2 : w.ownsRow b' t 1 u m ys) (hne : s ≠ t) : ∀ k, v.ownBlock = some k → u.ownBlock ≠ some k := by
  intro k hk hu
  rcases h.2 with ⟨rfl, _⟩ | ⟨g, cap, cur, rfl, hb, hg, _⟩
  · simp [Value.ownBlock] at hk
  · rcases h2.2 with ⟨rfl, _⟩ | ⟨g', cap', cur', rfl, hb', hg', _⟩
    · simp [Value.ownBlock] at hu
    · simp [Value.ownBlock] at hk hu
      subst hk hu
      rw [hg] at hg'
      simp at hg'
      exact hne hg'.2
theorem pl_len {w : World} {q p : Nat} {d : Dk} (h : DiskAt w q p d) {segs : List Nat} (hs : Has d segs) {i : Nat} (hi : i < 8 * segs.length) : (pl d segs i).length = 64 := read_len h (num_lt hs hi)
theorem pl_lt {w : World} {q p : Nat} {d : Dk} (h : DiskAt w q p d) {segs : List Nat} (hs : Has d segs) {i : Nat} (hi : i < 8 * segs.length) : ∀ x ∈ pl d segs i, x < 256 := (h.ok.1.get _ (num_lt hs hi)).last.2
theorem below_grown {b : Nat} {w w1 w2 : World} {o : Option Nat} (h : Below b w w1) (hg : w1.grownBy w2 o) (hb : b ≤ w1.heap.size) (ho : ∀ k, o = some k → b ≤ k) : Below b w w2 := h.grown hg hb ho
set_option maxRecDepth 10000 in
set_option maxHeartbeats 4000000 in
theorem look_any {w : World} {g q p n last boot : Nat} {d : Dk} {segs : List Nat} (h : LogAt w g q segs n last boot) (hd : DiskAt w q p d) (hdead : d.dead = false) (hs : Has d segs) (e m : Nat) (he : e ≤ 8 * segs.length) (hm : m = e - n) :
    Calls Try.prog 56 #[.pointer (some ⟨g, 0, none⟩), .int .i64 (e : Int)] w fun r w' => ∃ va vb, r = .returned (.tuple #[va, vb]) ∧ w'.ownsRow w.heap.size 5 1 va (txt (pl d segs) n m).length (vals (txt (pl d segs) n m)) ∧ w'.ownsRow w.heap.size 3 1 vb (bts (pl d segs) n m).length (ivals (bts (pl d segs) n m)) ∧ Below w.heap.size w w' := by
  have hlen := h.len
  have hnle := h.nle
  have hg := h.glt
  have H := hid h
  have HDI := hid hd
  have HDE := hid hdead
  have HS := hid hs
  have hc2 := h.c2
  have HPL : Hid (∀ i, i < 8 * segs.length → (pl d segs i).length = 64) := fun i hi => pl_len hd hs hi
  have HPT : Hid (∀ i, i < 8 * segs.length → ∀ x ∈ pl d segs i, x < 256) := fun i hi => pl_lt hd hs hi
  have hm1 : n + m = e ∨ (m = 0 ∧ e ≤ n) := by omega
  clear h hd hdead hs hm
  go_enter Try.func56, Try.ntmps56
  go_wp2_with fail
  go_loopg [6, 7, 8] m (fun gk v6 v7 v8 wr => ∃ i : Nat, i + gk = m ∧ v8 = .int .i64 ((n + i : Nat) : Int) ∧ wr.ownsRow w.heap.size 5 1 v6 (txt (pl d segs) n i).length (vals (txt (pl d segs) n i)) ∧ wr.ownsRow w.heap.size 3 1 v7 i (ivals (bts (pl d segs) n i)) ∧ Below w.heap.size w wr)
  case atStart => exact ⟨0, by omega, rfl, World.ownsRow_nil _ _ 5 1, World.ownsRow_nil _ _ 3 1, Below.refl _ _⟩
  case round =>
    obtain ⟨i, hi, rfl, ho6, ho7, hb⟩ := hrel
    clear hc2
    obtain ⟨a6, c6, rfl⟩ := owns_slice ho6
    obtain ⟨a7, c7, rfl⟩ := owns_slice ho7
    by_cases hlt : i < m
    · have hle : n + i < 8 * segs.length := by omega
      have hlt' : ((n + i : Nat) : Int) < (e : Int) := by omega
      have hLr := H.out.below hb
      have hc0 := hLr.c0
      have HL1 := hid (hLr.below (Below.drew (Below.refl _ wr)))
      have HD1 := hid ((HDI.out.below hb).below (Below.drew (Below.refl _ wr)))
      have HRD : Hid (d.read (num segs (n + i)) = pl d segs (n + i)) := rfl
      have HO6 := hid ho6
      have HO7 := hid ho7
      have HB := hid hb
      have hnum := num_lt HS.out hle
      have hbs := hb.size
      generalize hN : n + i = N at *
      clear ho6 ho7 hb hLr
      go_wp2_with fail
      go_region_held (fun W => W.cell? ⟨g, 0, none⟩ = some (.pointer (some ⟨q, 0, none⟩))) (first | exact hc0 | exact S2.out) (first
        | (go_at_call 49; refine (number_at HL1.out N (by omega)).mono ?_; rintro r w1 ⟨rfl, rfl⟩)
        | (go_at_call 23; refine (read_ok HD1.out HDE.out hnum).mono ?_; rintro r w2 ⟨y, rfl, hbuf, hb2, hy⟩
           have hb2 : Below wr.heap.size wr w2 := below_of_drew hb2
           have S2 := hid ((hb2.cell (p := ⟨g, 0, none⟩) (show g < _ by omega)).trans hc0)
           have HBU := hid hbuf
           have HB2 := hid hb2
           clear hbuf hb2))
      rw [HRD.out] at HBU
      have hl64 := HPL.out N hle
      have HM54 : Hid ((mid (pl d segs N)).length = 54) := mid_len hl64
      have HRM : Hid (Row w2 (some ⟨y, 6, none⟩) (mid (pl d segs N))) := by
        have := row_take (Row.sub HBU.out.row 6 (by omega)) 54
        rwa [Nat.zero_add] at this
      have HNE : Hid (mid (pl d segs N) ≠ []) := by intro e; have := HM54.out; rw [e] at this; simp at this
      have HO6b := hid (owns_below HO6.out HB2.out)
      have HO7b := hid (owns_below HO7.out HB2.out)
      have HBb := hid (below_tr HB.out HB2.out hbs)
      have hbs2 := HB2.out.size
      have HTL : Hid ((txt (pl d segs) n i).length = 54 * i) := txt_len (fun j hj => HPL.out _ (by omega))
      have HTS : Hid (txt (pl d segs) n (i + 1) = txt (pl d segs) n i ++ mid (pl d segs N)) := by show _ = _; rw [txt_succ, hN]
      have HBS : Hid (bts (pl d segs) n (i + 1) = bts (pl d segs) n i ++ [sb (pl d segs N) N]) := by show _ = _; rw [bts_succ, hN]
      have HL64 := hid hl64
      have hyw : wr.heap.size ≤ y := hy
      have HYN : Hid (∀ k, (Value.slice a6 (txt (pl d segs) n i).length c6).ownBlock = some k → k ≠ y) := fun k hk => by have := (owns_lt HO6.out hk).1; omega
      clear HO6 HO7 HB hl64 hc0 S2 HL1 HD1
      generalize txt (pl d segs) n i = X at *
      generalize mid (pl d segs N) = M at *
      have tok : True := trivial
      go_wp2_with (at_builtin; have _t := tok; refine wpList_append_row _ rfl _ _ rfl w.heap.size (.slice a6 X.length c6) X rfl HO6b.out (some ⟨y, 6, none⟩) M 54 58 rfl HM54.out HRM.out HNE.out (by rw [HTL.out, HM54.out]; omega) (by omega) ?_; intro g3 m3 cap3 w3 hm3 ho3 hg3 hat3; have HM3 := hid hm3; have HO3 := hid ho3; have HG3 := hid hg3; clear tok hm3 ho3 hg3 hat3)
      have HO7c := hid (owns_grown HO7b.out HG3.out (owns_apart HO7b.out HO6b.out (by decide)))
      have HBU3 : Hid (Buf w3 y (pl d segs N)) := ⟨(HG3.out.block y HBU.out.lt (fun e => HYN.out y e.symm rfl)).trans HBU.out.1, HBU.out.2⟩
      have HBc := hid (below_grown HBb.out HG3.out HBb.out.size (fun k e => owns_block HO6b.out k e))
      have hsz3 := HG3.out.size
      clear HO6b HO7b HG3 HBU HBb HRM
      refine (sound_any N HBU3.out HL64.out).mono ?_
      rintro r w4 ⟨rfl, hb4⟩
      have HO3d := hid (owns_below HO3.out hb4)
      have HO7d := hid (owns_below HO7c.out hb4)
      have HBd := hid (below_tr HBc.out hb4 HBc.out.size)
      have hsz4 := hb4.size
      generalize hZ : sb (pl d segs N) N = z at *
      have HZ := hid hZ
      have HY : Hid ((w4.alloc (.cells #[.int .i64 z] 3)).heap[w4.heap.size]? = some (.cells #[.int .i64 z] 3 (0, 0))) := heap_alloc_new _ _
      have HO3e : Hid ((w4.alloc (.cells #[.int .i64 z] 3)).ownsRow w.heap.size 5 1 (.slice (some ⟨g3, 0, none⟩) m3 cap3) m3 (vals (X ++ M))) := owns_below HO3d.out ((Below.refl _ _).alloc (Nat.le_refl _) _)
      have HO7e : Hid ((w4.alloc (.cells #[.int .i64 z] 3)).ownsRow w.heap.size 3 1 (.slice a7 i c7) i (ivals (bts (pl d segs) n i))) := owns_below HO7d.out ((Below.refl _ _).alloc (Nat.le_refl _) _)
      have HBe : Hid (Below w.heap.size w (w4.alloc (.cells #[.int .i64 z] 3))) := below_tr HBd.out ((Below.refl _ _).alloc (Nat.le_refl _) _) HBd.out.size
      clear HO3 HO7c HBc hb4 HO3d HO7d HBd HBU3 hZ
      go_wp2_with (at_builtin; refine wpList_app_one _ 33 3 rfl _ _ rfl 8 (.int .i64 0) Try.underlying33 info3 rfl (by decide) w.heap.size (.slice a7 i c7) i _ rfl HO7e.out w4.heap.size _ rfl HY.out rfl (by omega) (by simp; omega) ?_; intro g5 cp5 w5 ho5 hg5 hat5; have HO5 := hid ho5; have HG5 := hid hg5; clear ho5 hg5 hat5)
      go_roundg (gk - 1)
      case measure => omega
      case rel =>
        refine ⟨i + 1, by omega, by first | go_num | (rw [← hN]; go_num), ?_, ?_, ?_⟩
        · rw [HTS.out, HM3.out]
          exact owns_grown HO3e.out HG5.out (owns_apart HO3e.out HO7e.out (by decide))
        · rw [HBS.out, ivals_app]
          exact HO5.out
        · exact below_grown HBe.out HG5.out HBe.out.size (fun k e => owns_block HO7e.out k e)
    · have hlt' : ¬ ((n + i : Nat) : Int) < (e : Int) := by omega
      obtain rfl : i = m := by omega
      have HQ := hid (And.intro ho6 (And.intro ho7 hb))
      have HBL := hid (bts_len (pl d segs) n i)
      generalize hN : n + i = N at *
      clear ho6 ho7 hb
      go_wp2_with fail
      go_ret2
      exact ⟨_, _, rfl, HQ.out.1, by rw [HBL.out]; exact HQ.out.2.1, HQ.out.2.2⟩
end Go.Proofs.Yteohjfhflodklaa
