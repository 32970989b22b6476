/- What is there behind a flush, an append and a crash. No condition but that the log stands alone. -/
import Derived.Test.YteohjfhflodklabTMath
import Derived.Test.YteohjfhflodklabLawB
namespace Go.Proofs.Yteohjfhflodklab
open Go.ChangeShapes Go.WideShapes Go.ChangeAt Go.RowKit Pen
open Crc (four nx run)
set_option maxRecDepth 4000
/-- Nothing waits. -/
def Calm (d : Dk) : Prop := ∀ i, (d.secs.getD i blank).waits = false
theorem calm_safe {d : Dk} (h : Calm d) (i : Nat) : (d.secs.getD i blank).safe = d.read i := by
  unfold Dk.read Sec.last
  rw [h i]
  rfl
def Dk.flushed (d : Dk) : Dk := { d with ops := d.ops + 1, secs := d.secs.map clean }
theorem flushed_get (d : Dk) (i : Nat) : d.flushed.secs.getD i blank = clean (d.secs.getD i blank) := by
  unfold Dk.flushed
  simp only [List.getD_eq_getElem?_getD, List.getElem?_map]
  cases d.secs[i]? <;> rfl
theorem flushed_read (d : Dk) (i : Nat) : d.flushed.read i = d.read i := by
  unfold Dk.read
  rw [flushed_get]
  rfl
theorem flushed_calm (d : Dk) : Calm d.flushed := fun i => by rw [flushed_get]; rfl
theorem flush_is {w w' : World} {g q p x : Nat} {d : Dk} {k mm : Nat} {segs : List Nat} {recs : List (Nat × List Nat)} (h : LogIs w g q p x d k mm segs recs) (hd : DiskAt w' q p d.flushed) (hb : But (fun j => j = q ∨ j = p) w w') (hops : d.ops ≤ lenOf recs) : LogIs w' g q p x d.flushed k mm segs recs := by
  have ht := h.sys.disk.tag
  have hn : ∀ {j t : Nat}, Tag w j t → t ≠ 52 → t ≠ 73 → ¬ (j = q ∨ j = p) := fun {j t} hj h1 h2 e => by
    rcases e with rfl | rfl
    · exact hj.ne ht.1 h1 rfl
    · exact hj.ne ht.2 h2 rfl
  have hni : NoInts (fun j => j = q ∨ j = p) w := noInts_of (fun j e => by rcases e with rfl | rfl; exact ⟨52, ht.1, by decide⟩; exact ⟨73, ht.2, by decide⟩)
  have hl : d.flushed.secs.length = d.secs.length := by simp [Dk.flushed]
  refine ⟨⟨h.sys.log.but hb hni (hn h.sys.log.tag (by decide) (by decide)), hd, h.sys.space.but hb (hn h.sys.space.tag (by decide) (by decide)), h.sys.dead, h.sys.fuse, by rw [hl]; exact h.sys.room, h.sys.le, h.sys.low, h.sys.fit, h.sys.few⟩, ?_, h.ok, h.nodup, ?_, ?_, h.tight, h.whole⟩
  · intro i hi
    rw [pl, flushed_read]
    exact h.at_ i hi
  · intro i hi hj
    rw [flushed_read]
    exact h.blank i (by rw [← hl]; exact hi) hj
  · show d.ops + 1 ≤ _
    omega
/-- What lies there behind the crash. -/
theorem torn_facts {d : Dk} {segs more : List Nat} {rs : List (Nat × List Nat)} {bt : Nat} {r c : List Nat} (hcalm : Calm d) (hn : (segs ++ more).Nodup) (hs : Has d (segs ++ more)) (h : At (pl d segs) 0 (lay 0 0 rs)) (hbl : Blank d segs (lenOf rs)) (hf : lenOf rs ≤ 8 * segs.length) (hfit : lenOf rs + cnt (r.length + 16) ≤ 8 * (segs ++ more).length) :
    let d3 := (lays d (segs ++ more) (lenOf rs) (secsOf (lenOf rs) bt (mk (lastOf 0 rs) bt r))).crash c
    At (pl d3 (segs ++ more)) 0 (lay 0 0 rs) ∧ (∀ i, i < cnt (r.length + 16) → ∃ t, pl d3 (segs ++ more) (lenOf rs + i) = mix zeros (sect bt (lenOf rs + i) (prt (mk (lastOf 0 rs) bt r) i)) t) ∧ (∀ i, cnt (r.length + 16) ≤ i → lenOf rs + i < 8 * (segs ++ more).length → pl d3 (segs ++ more) (lenOf rs + i) = zeros) := by
  intro d3
  have hl : (secsOf (lenOf rs) bt (mk (lastOf 0 rs) bt r)).length = cnt (r.length + 16) := by rw [secsOf_len, mk_len]
  have hfl := (lays_facts d (segs ++ more) (lenOf rs) (secsOf (lenOf rs) bt (mk (lastOf 0 rs) bt r))).2.2.1
  have hout : ∀ j, j < 8 * (segs ++ more).length → (j < lenOf rs ∨ lenOf rs + cnt (r.length + 16) ≤ j) → pl d3 (segs ++ more) j = pl d (segs ++ more) j := fun j hj ho => by
    have hlt := num_lt hs hj
    have hsec := lays_sec _ hn (secsOf (lenOf rs) bt (mk (lastOf 0 rs) bt r)) (lenOf rs) d (by rw [hl]; exact hfit) hs (num (segs ++ more) j) (fun i h1 h2 e => by rw [hl] at h2; have := num_inj hn (by omega) hj e; omega)
    rcases crash_read c (num (segs ++ more) j) (by rw [hfl]; exact hlt) with ⟨h1, _⟩ | ⟨_, h2⟩
    · rw [hsec, hcalm] at h1; cases h1
    · rw [pl, h2, hsec, calm_safe hcalm]; rfl
  have hzero : ∀ j, lenOf rs ≤ j → j < 8 * (segs ++ more).length → pl d (segs ++ more) j = zeros := fun j h1 h2 => by
    refine hbl _ (num_lt hs h2) fun i hi e => ?_
    rw [← num_app segs more (by omega)] at e
    have := num_inj hn (by omega) h2 e
    omega
  refine ⟨fun i hi => ?_, fun i hi => ?_, fun i h1 h2 => ?_⟩
  · have h9 := h i hi
    rw [lay_len] at hi
    rw [Nat.zero_add] at h9 ⊢
    rw [hout i (by omega) (.inl hi), ← h9, pl, num_app _ _ (by omega)]
    rfl
  · have hj : lenOf rs + i < 8 * (segs ++ more).length := by omega
    have hlt := num_lt hs hj
    have hsec := lays_sec_in _ hn (secsOf (lenOf rs) bt (mk (lastOf 0 rs) bt r)) (lenOf rs) d (by rw [hl]; exact hfit) hs i (by rw [hl]; exact hi)
    rcases crash_read c (num (segs ++ more) (lenOf rs + i)) (by rw [hfl]; exact hlt) with ⟨_, t, h2⟩ | ⟨h1, _⟩
    · refine ⟨t, ?_⟩
      rw [pl, h2, hsec]
      show mix (d.secs.getD (num (segs ++ more) (lenOf rs + i)) blank).safe _ t = _
      rw [calm_safe hcalm, secsOf_get _ _ _ _ (by rw [mk_len]; exact hi)]
      have := hzero _ (by omega) hj
      rw [pl] at this
      rw [this]
    · rw [hsec] at h1; cases h1
  · rw [hout _ h2 (.inr (by omega))]
    exact hzero _ (by omega) h2
end Go.Proofs.Yteohjfhflodklab
