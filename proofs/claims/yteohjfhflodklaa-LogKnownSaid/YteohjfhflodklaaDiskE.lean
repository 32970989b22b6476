/- What a disk's Crash answers. Condition: at most a million bytes of choice. -/
import Derived.Test.YteohjfhflodklaaDiskD
import Derived.Deep.RegionHeldLaw
namespace Go.Proofs.Yteohjfhflodklaa
open Go.RowKit
set_option maxRecDepth 4000
/-- The sectors in the cache, of the first i. -/
def count (l : List Sec) (i : Nat) : Nat := ((l.take i).filter (·.waits)).length
def crashed (c : List Nat) (s : Sec) (k : Nat) : Sec := if s.waits then ⟨mix s.safe s.cached (stay c k), zeros, false⟩ else ⟨s.safe, zeros, false⟩
def crashAt (c : List Nat) (l : List Sec) (i : Nat) : Sec := crashed c (l.getD i blank) (count l i)
def crashTo (c : List Nat) (l : List Sec) (k : Nat) : List Sec := (List.range l.length).map fun i => if i < k then crashAt c l i else blank
def crashL (c : List Nat) (l : List Sec) : List Sec := (List.range l.length).map (crashAt c l)
theorem crashed_ok {c : List Nat} (hc : ∀ x ∈ c, x < 256) {s : Sec} (h : s.ok) (k : Nat) : (crashed c s k).ok := by
  unfold crashed
  split
  · exact ⟨bytes_mix h.1 h.2 _ (stay_le hc k), bytes_zeros⟩
  · exact ⟨h.1, bytes_zeros⟩
theorem crashAt_ok {c : List Nat} (hc : ∀ x ∈ c, x < 256) {l : List Sec} (h : allOk l) (i : Nat) (hi : i < l.length) : (crashAt c l i).ok := crashed_ok hc (h.get i hi) _
theorem crashTo_ok {c : List Nat} (hc : ∀ x ∈ c, x < 256) {l : List Sec} (h : allOk l) (k : Nat) : allOk (crashTo c l k) := by
  intro s hs
  obtain ⟨i, hi, rfl⟩ := List.mem_map.1 hs
  have hi := List.mem_range.1 hi
  split
  · exact crashAt_ok hc h i hi
  · exact blank_ok
theorem crashTo_len (c : List Nat) (l : List Sec) (k : Nat) : (crashTo c l k).length = l.length := by simp [crashTo]
theorem crashTo_zero (c : List Nat) (l : List Sec) : crashTo c l 0 = List.replicate l.length blank := by
  apply List.ext_getElem?
  intro i
  by_cases hi : i < l.length
  · simp [crashTo, hi]
  · rw [List.getElem?_eq_none (by simp [crashTo]; omega), List.getElem?_eq_none (by simp; omega)]
theorem crashTo_all (c : List Nat) (l : List Sec) : crashTo c l l.length = crashL c l := by
  unfold crashTo crashL
  apply List.map_congr_left
  intro i hi
  rw [if_pos (List.mem_range.1 hi)]
theorem crashTo_get (c : List Nat) (l : List Sec) (k : Nat) (hk : k < l.length) : (crashTo c l k).getD k blank = blank := by
  simp [crashTo, hk]
theorem crashTo_set (c : List Nat) (l : List Sec) (k : Nat) (hk : k < l.length) : (crashTo c l k).set k (crashAt c l k) = crashTo c l (k + 1) := by
  apply List.ext_getElem?
  intro i
  by_cases hi : i < l.length
  · rw [List.getElem?_set]
    by_cases e : k = i
    · subst e; simp [crashTo, hk]
    · rw [if_neg e]
      simp only [crashTo, List.getElem?_map, List.getElem?_range hi, Option.map_some, Option.some.injEq]
      by_cases h1 : i < k
      · rw [if_pos h1, if_pos (by omega)]
      · rw [if_neg h1, if_neg (by omega)]
  · rw [List.getElem?_eq_none (by simp [crashTo]; omega), List.getElem?_eq_none (by simp [crashTo]; omega)]
theorem count_succ (l : List Sec) (i : Nat) (hi : i < l.length) : count l (i + 1) = count l i + if (l.getD i blank).waits then 1 else 0 := by
  unfold count
  rw [List.take_succ_eq_append_getElem hi, List.filter_append, List.length_append]
  congr 1
  have : l.getD i blank = l[i] := by simp [hi]
  rw [this]
  cases h : l[i].waits <;> simp [h]
theorem count_le (l : List Sec) (i : Nat) : count l i ≤ i := by
  unfold count
  exact Nat.le_trans (List.length_filter_le _ _) (by simp; omega)
def Dk.crash (d : Dk) (c : List Nat) : Dk := ⟨crashL c d.secs, 0, none, false⟩
theorem zero64 : (Try.prog.info? 86).map (fun i => (i.zero, i.size)) = some (some (.agg (secCells blank).toArray), 129) := by kernel_rfl
theorem run_alloc64 (w : World) : (Instr.alloc 86 true (.tuple #[])).run Try.prog w = .ok (.pointer (some ⟨w.heap.size, 0, none⟩)) (w.alloc (.cells (secCells blank).toArray 86)) := by
  have h := (zero_of_info zero64).1
  simp [Instr.alloc, h, newVar, newRow, Value.cells]
theorem store64_new (w : World) (n : Nat) (s s' : Sec) (hn : w.heap.size = n) (hs : s.ok) (hs' : s'.ok) : (Instr.storeAt 86 (.pointer (some ⟨n, 0, none⟩)) (.agg (secCells s').toArray)).run Try.prog (w.alloc (.cells (secCells s).toArray 86)) = .ok () (w.alloc (.cells (secCells s').toArray 86)) := by
  subst hn
  refine run_storeAt_new w 86 (secCells s).toArray (secCells s').toArray ?_ ?_ ?_
  · rw [List.size_toArray, secCells_len hs']; exact size64
  · rw [List.size_toArray, List.size_toArray, secCells_len hs, secCells_len hs']
  · exact all_oneCell_toArray (secCells_one s')
theorem step_copy_region {ops : Array Oper} {op : Oper} {a : Act} {w : World} {K : Act → World → Prop} {Q : Exit → Act → World → Prop} {E : Prop} (hgd : op.guard = none) (d s : Operand)
    (ho : op.op = .call { callee := .builtin .copy, args := #[d, s], argTypes := #[40, 40] }) (g off dLen dCap : Nat) (src : Option Addr) (sLen sCap : Nat)
    (hd : a.eval d = .slice (some ⟨g, off, none⟩) dLen dCap) (hs : a.eval s = .slice src sLen sCap) (w' : World) (n : Nat) (hrun : (Builtin.copy_ #[40, 40] op.type #[.slice (some ⟨g, off, none⟩) dLen dCap, .slice src sLen sCap]).run Try.prog w = .ok (goInt n) w')
    (h : K (a.put op.dst (goInt n)) w') : if Region.wanted op (yielded ops a.tmps) = true then Oper.wp Try.prog op a w K Q else E := by
  have hw : Region.wanted op (yielded ops a.tmps) = true := by simp [Region.wanted, hgd]
  rw [if_pos hw]
  unfold Oper.wp
  simp [execOp, ho, resolve, invoke, builtin, hd, hs, hrun, Result.andThen]
  exact h
theorem run_copy_bytes (w : World) (ty : TypeId) (g off dLen dCap : Nat) (src : Option Addr) (sLen sCap : Nat) (cur : List Value) (t : TypeId) (hg : w.heap[g]? = some (.cells cur.toArray t (0, 0)))
    (b : List Nat) (hn : b.length = Nat.min sLen dLen) (hr : Row w src b) (hfit : off + b.length ≤ cur.length) :
    (Builtin.copy_ #[40, 40] ty #[.slice (some ⟨g, off, none⟩) dLen dCap, .slice src sLen sCap]).run Try.prog w = .ok (goInt b.length) (w.setRow g (splice cur off (vals b)).toArray) := by
  rcases hr.2 with rfl | ⟨b0, o0, rfl, _, hc⟩
  · have h := run_copy_none (P := Try.prog) w 40 40 ty 5 (some ⟨g, off, none⟩) src dLen dCap sLen sCap Try.underlying40 one5 (by simpa using hn.symm)
    rw [h]
    simp [splice, vals, setRow_self w g cur.toArray t (0, 0) hg]
  · have h := run_copy_row (P := Try.prog) w 40 40 ty 5 g off dLen dCap ⟨b0, o0, none⟩ sLen sCap cur.toArray t (vals b) Try.underlying40 one5 hg (by rw [vals_len]; exact hn) (news_of hc) (by simpa [vals_len] using hfit) (vals_one b)
    rw [h, vals_len]
    simp [splice, vals_len]
theorem row_cached {w : World} {b o : Nat} {s : Sec} (hs : s.ok) (hb : b < w.heap.size) (h : w.rangeAt b o (secCells s)) (n : Nat) : Row w (some ⟨b, o + 64, none⟩) (s.cached.take n) := by
  refine ⟨fun x hx => hs.2.2 x (List.mem_of_mem_take hx), .inr ⟨b, o + 64, rfl, hb, fun i hi => ?_⟩⟩
  have hi2 : i < s.cached.length := by simp at hi; omega
  have := range_cached hs h i _ (vals_get s.cached i hi2)
  rw [this]
  have hi3 : i < n := by simp at hi; omega
  simp [hi2, hi3]
/-- A round of Crash: what is laid down for one sector. -/
theorem crash_round {wr : World} {q p F i N : Nat} {d : Dk} {c : List Nat} (hc : ∀ x ∈ c, x < 256) (hd : DiskAt wr q p d) (hN : d.secs.length = N) (hi : i < N)
    (hF : wr.heap[F]? = some (.cells (secsCells (crashTo c d.secs i)).toArray 86 (0, 0))) :
    ∃ w2, (Instr.storeAt 84 (.pointer (some ⟨F, i * 129, none⟩)) (.agg (row8 (d.secs.getD i blank).safe))).run Try.prog (wr.alloc (.cells (secCells (d.secs.getD i blank)).toArray 86)) = .ok () w2 ∧
      w2.rangeAt wr.heap.size 0 (secCells (d.secs.getD i blank)) ∧ (∀ k, k < wr.heap.size → k ≠ F → w2.heap[k]? = wr.heap[k]?) ∧ w2.heap.size = wr.heap.size + 1 ∧ w2.os = wr.os ∧ w2.tape = wr.tape ∧ w2.output = wr.output ∧
      w2.heap[F]? = some (.cells (secsCells ((crashTo c d.secs i).set i ⟨(d.secs.getD i blank).safe, zeros, false⟩)).toArray 86 (0, 0)) := by
  subst hN
  have hs := hd.ok.1.get i hi
  have hok := crashTo_ok hc hd.ok.1 i
  have hlen := crashTo_len c d.secs i
  have hi' : i < (crashTo c d.secs i).length := by omega
  have hlt : F < wr.heap.size := (Array.getElem?_eq_some_iff.1 hF).1
  have hF1 : (wr.alloc (.cells (secCells (d.secs.getD i blank)).toArray 86)).heap[F]? = some (.cells (secsCells (crashTo c d.secs i)).toArray 86 (0, 0)) := (Below.heap_alloc _ _ F hlt).trans hF
  have hfit : i * 129 + (vals (d.secs.getD i blank).safe).length ≤ (secsCells (crashTo c d.secs i)).length := by rw [vals_len, hs.1.1, secsCells_len hok, hlen]; omega
  have hst := run_storeAt_row _ F (i * 129) 86 84 _ (vals (d.secs.getD i blank).safe) hF1 (by rw [vals_len, hs.1.1]; exact size62) hfit (vals_one _)
  have hsp := secs_splice hok i 0 (vals (d.secs.getD i blank).safe) ⟨(d.secs.getD i blank).safe, zeros, false⟩ hi' (by rw [vals_len, hs.1.1]; decide) (by rw [crashTo_get c d.secs i hi]; exact sec_safe blank _ blank_ok hs.1)
  rw [Nat.add_zero] at hsp
  rw [hsp] at hst
  have hne : wr.heap.size ≠ F := by omega
  refine ⟨_, hst, ?_, fun k hk hkF => ?_, ?_, rfl, rfl, rfl, setRow_heap _ F _ _ 86 _ hF1⟩
  · intro j v hv
    have h1 := range_new wr (secCells (d.secs.getD i blank)) 86 (0, 0) j v hv
    rw [← h1]
    simp only [World.cell?, setRow_other _ F wr.heap.size _ hne]
  · rw [setRow_other _ F k _ hkF]
    exact Below.heap_alloc _ _ k hk
  · simp [World.setRow]
/-- .. and where it waits: the bytes that stay. -/
theorem crash_copy {w2 : World} {F m i T : Nat} {s : Sec} {L : List Sec} (hs : s.ok) (hL : allOk L) (hi : i < L.length) (hT : T ≤ 64) (hLi : L.getD i blank = ⟨s.safe, zeros, false⟩) (hm : m < w2.heap.size)
    (hr : w2.rangeAt m 0 (secCells s)) (hF : w2.heap[F]? = some (.cells (secsCells L).toArray 86 (0, 0))) (ty : TypeId) :
    (Builtin.copy_ #[40, 40] ty #[.slice (some ⟨F, i * 129, none⟩) T 64, .slice (some ⟨m, 64, none⟩) T 64]).run Try.prog w2 = .ok (goInt T) (w2.setRow F (secsCells (L.set i ⟨mix s.safe s.cached T, zeros, false⟩)).toArray) := by
  have hlen : (s.cached.take T).length = T := by simp [hs.2.1]; omega
  have h := run_copy_bytes w2 ty F (i * 129) T 64 (some ⟨m, 64, none⟩) T 64 (secsCells L) 86 hF (s.cached.take T) (by rw [hlen]; exact (Nat.min_self T).symm) (by have := row_cached hs hm hr T; rwa [Nat.zero_add] at this) (by rw [hlen, secsCells_len hL]; omega)
  have hsp := secs_splice hL i 0 (vals (s.cached.take T)) ⟨mix s.safe s.cached T, zeros, false⟩ hi (by rw [vals_len, hlen]; omega) (by
    rw [hLi, sec_over_safe ⟨s.safe, zeros, false⟩ 0 (s.cached.take T) ⟨hs.1, bytes_zeros⟩ (by rw [hlen]; omega), mix_over _ _ _ (by rw [hs.2.1]; exact hT)])
  rw [Nat.add_zero] at hsp
  rw [hsp, hlen] at h
  exact h
set_option maxHeartbeats 2000000 in
theorem crash_any {w : World} {q p : Nat} {d : Dk} (h : DiskAt w q p d) (a : Option Addr) (c : List Nat) (n cap : Nat) (hr : Row w a c) (hn : c.length = n) (hm : n ≤ 1000000) :
    Calls Try.prog 26 #[.pointer (some ⟨q, 0, none⟩), .slice a n cap] w fun e w' => ∃ q', e = .returned (.pointer (some ⟨q', 0, none⟩)) ∧ ∃ p', DiskAt w' q' p' (d.crash c) ∧ Below w.heap.size w w' ∧ w.heap.size ≤ q' ∧ w.heap.size ≤ p' := by
  have HD := hid h
  have HR := hid hr
  have HC := hid hr.1
  have hlen := h.ok.2
  have hmk := fun w => make_secs d.secs.length hlen w
  obtain ⟨z, h1, h2, h3, h4, h5⟩ := h
  obtain ⟨c0, c1, c2, c3, c4, cf⟩ := DiskAt.cells h1
  clear h1 h2 h3 h4 h5 c1 c2 c3 c4 cf hr
  have HF : Hid ((w.alloc (.cells (secsCells (List.replicate d.secs.length blank)).toArray 86)).heap[w.heap.size]? = some (.cells (secsCells (crashTo c d.secs 0)).toArray 86 (0, 0))) := by
    rw [crashTo_zero]; exact heap_alloc_new _ _
  have HB : Hid (Below w.heap.size w (w.alloc (.cells (secsCells (List.replicate d.secs.length blank)).toArray 86))) := (Below.refl _ w).alloc (Nat.le_refl _) _
  have hc1 : (w.alloc (.cells (secsCells (List.replicate d.secs.length blank)).toArray 86)).cell? ⟨q, 0, none⟩ = some (.slice (some ⟨p, 0, none⟩) d.secs.length d.secs.length) := (HB.out.cell (p := ⟨q, 0, none⟩) HD.out.lt.1).trans c0
  generalize hN : d.secs.length = N at *
  generalize (secsCells (List.replicate N blank)).toArray = CC at *
  go_enter Try.func26, Try.ntmps26
  go_wp2_with fail
  clear c0 hmk
  have hc1' := hid hc1
  clear hc1
  go_loopg [6, 7, 8, 9, 23] N (fun k v6 v7 v8 v9 v wr => ∃ i : Nat, i + k = N ∧ v = .int .i64 (i : Int) ∧ v6 = .int .i64 (count d.secs i : Nat) ∧ wr.heap[w.heap.size]? = some (.cells (secsCells (crashTo c d.secs i)).toArray 86 (0, 0)) ∧ Below w.heap.size w wr)
  case atStart => exact ⟨0, by omega, rfl, by simp [count], HF.out, HB.out⟩
  case round =>
    obtain ⟨i, hk, rfl, rfl, hF, hb⟩ := hrel
    have HFi := hid hF
    have HBi := hid hb
    by_cases h1 : i < N
    · have hi : (i : Int) < (N : Int) := by omega
      clear hF hb
      have hd := HD.out.below HBi.out
      have HS := hid (hd.ok.1.get i (by omega))
      have HL := hid (load64 wr p (i * 129) _ HS.out (hd.range i (by omega)))
      obtain ⟨w2, hst, hrg, hblk, hsz, hos, htp, hout, hF2⟩ := crash_round (F := w.heap.size) HC.out hd hN h1 HFi.out
      have HST := hid hst
      have hwt : w2.cell? ⟨wr.heap.size, 128, none⟩ = some (.bool (d.secs.getD i blank).waits) := by
        have := hrg 128 _ (sec_get_waits _ HS.out)
        rwa [Nat.zero_add] at this
      have hls := load62 (wr.alloc (.cells (secCells (d.secs.getD i blank)).toArray 86)) wr.heap.size 0 _ HS.out.1 (range_safe HS.out (range_new wr _ 86 (0, 0)))
      have HLS := hid hls
      have hb2 : Below w.heap.size w w2 := ⟨hos.trans HBi.out.os, htp.trans HBi.out.tape, hout.trans HBi.out.output, by have := HBi.out.size; omega, fun k hk => (hblk k (by have := HBi.out.size; omega) (by omega)).trans (HBi.out.block k hk)⟩
      have HB2 := hid hb2
      have HF2 := hid hF2
      have HRG := hid hrg
      have hcl := count_le d.secs i
      have HCT : Hid (crashAt c d.secs i = crashed c (d.secs.getD i blank) (count d.secs i)) := rfl
      have HCS := hid (count_succ d.secs i (by omega))
      have HTS := hid (crashTo_set c d.secs i (by omega))
      have HSZ := hid hsz
      clear hd hst hrg hblk hsz hos htp hout hF2 hls hb2
      generalize hs : d.secs.getD i blank = s at *
      generalize hct : count d.secs i = ct at *
      have hct5 : (ct : Int) ≤ 776 := by omega
      cases hw : s.waits
      · rw [hw] at hwt
        have HCE : Hid (crashAt c d.secs i = ⟨s.safe, zeros, false⟩) := by show _ = _; rw [HCT.out, crashed, hw]; rfl
        have HCO : Hid (count d.secs (i + 1) = ct) := by show _ = _; rw [HCS.out, hw]; rfl
        have HW := hid hw
        clear hw
        go_wp2_with (first | refine step_load 86 rfl _ rfl _ HL.out ?_ | refine step_alloc 86 rfl rfl _ _ (run_alloc64 _) ?_ | refine step_store 86 rfl _ _ rfl _ (store64_new _ _ _ _ (by simp) blank_ok HS.out) ?_ | refine step_load 84 rfl _ rfl _ HLS.out ?_ | refine step_store 84 rfl _ _ rfl w2 HST.out ?_)
        go_roundg (gk - 1)
        case measure => omega
        case rel =>
          refine ⟨i + 1, by omega, by go_num, by rw [HCO.out], ?_, HB2.out⟩
          rw [← HTS.out, HCE.out]
          exact HF2.out
      · rw [hw] at hwt
        have hT := stay_le HC.out ct
        have HCE : Hid (crashAt c d.secs i = ⟨mix s.safe s.cached (stay c ct), zeros, false⟩) := by show _ = _; rw [HCT.out, crashed, hw]; rfl
        have HCO : Hid (count d.secs (i + 1) = ct + 1) := by show _ = _; rw [HCS.out, hw]; rfl
        have HLL : Hid ((crashTo c d.secs i).length = N) := by show _ = _; rw [crashTo_len]; exact hN
        have HLK : Hid (allOk ((crashTo c d.secs i).set i ⟨s.safe, zeros, false⟩)) := (crashTo_ok HC.out HD.out.ok.1 i).set i ⟨HS.out.1, bytes_zeros⟩
        have HLG : Hid (((crashTo c d.secs i).set i ⟨s.safe, zeros, false⟩).getD i blank = ⟨s.safe, zeros, false⟩) := by
          show _ = _
          rw [List.getD_eq_getElem?_getD, List.getElem?_set_self (by rw [HLL.out]; exact h1)]
          rfl
        have HW := hid hw
        clear hw
        go_wp2_with (first | refine step_load 86 rfl _ rfl _ HL.out ?_ | refine step_alloc 86 rfl rfl _ _ (run_alloc64 _) ?_ | refine step_store 86 rfl _ _ rfl _ (store64_new _ _ _ _ (by simp) blank_ok HS.out) ?_ | refine step_load 84 rfl _ rfl _ HLS.out ?_ | refine step_store 84 rfl _ _ rfl w2 HST.out ?_)
        refine (stays_any w2 a c n cap ct (HR.out.below HB2.out) hn hm (by omega)).mono ?_
        rintro e w3 ⟨rfl, rfl⟩
        generalize hTT : stay c ct = T at *
        have hTi : (T : Int) ≤ 64 := by omega
        have hcp := crash_copy (w2 := w3.drew) (F := w.heap.size) (m := wr.heap.size) (i := i) (T := T) HS.out HLK.out (by rw [List.length_set, HLL.out]; exact h1) hT HLG.out (by show _ < w3.heap.size; rw [HSZ.out]; omega) ((World.rangeAt_drew _ _ _ _).2 HRG.out) HF2.out 3
        have HF4 := hid (setRow_heap w3.drew w.heap.size _ (secsCells (((crashTo c d.secs i).set i ⟨s.safe, zeros, false⟩).set i ⟨mix s.safe s.cached T, zeros, false⟩)).toArray 86 _ HF2.out)
        have HB4 := hid (below_setRow HB2.out.drew (Nat.le_refl _) (secsCells (((crashTo c d.secs i).set i ⟨s.safe, zeros, false⟩).set i ⟨mix s.safe s.cached T, zeros, false⟩)).toArray)
        generalize w3.drew.setRow w.heap.size (secsCells (((crashTo c d.secs i).set i ⟨s.safe, zeros, false⟩).set i ⟨mix s.safe s.cached T, zeros, false⟩)).toArray = w4 at hcp HF4 HB4
        have HCP := hid hcp
        clear hcp hwt
        go_wp2_with fail
        go_region_held_law (fun _ => True) (trivial) (refine step_copy_region rfl (.tmp 45) (.tmp 48) rfl w.heap.size (i * 129) T 64 (some ⟨wr.heap.size, 64, none⟩) T 64 rfl rfl _ T HCP.out ?_)
        go_wp2_with fail
        go_roundg (gk - 1)
        case measure => omega
        case rel =>
          refine ⟨i + 1, by omega, by go_num, by rw [HCO.out]; go_num, ?_, HB4.out⟩
          have := HF4.out
          rw [List.set_set, ← HCE.out, HTS.out] at this
          exact this
    · obtain rfl : i = N := by omega
      clear hF hb h1
      go_wp2_with fail
      go_ret
      have hsz := HBi.out.size
      have hlt : w.heap.size < wr.heap.size := (Array.getElem?_eq_some_iff.1 HFi.out).1
      refine ⟨wr.heap.size, rfl, w.heap.size, ⟨0, ?_, ?_, ?_, by simp [Dk.crash], ?_⟩, HBi.out.alloc hsz _, by omega, by omega⟩
      · rw [heap_alloc_new]
        simp [Dk.crash, crashL, hN]
      · rw [Below.heap_alloc _ _ _ hlt, HFi.out, ← hN, crashTo_all]
        rfl
      · show allOk (crashL c d.secs)
        rw [← crashTo_all]
        exact crashTo_ok HC.out HD.out.ok.1 _
      · show (crashL c d.secs).length ≤ 776
        rw [← crashTo_all, crashTo_len, hN]
        exact hlen
end Go.Proofs.Yteohjfhflodklaa
