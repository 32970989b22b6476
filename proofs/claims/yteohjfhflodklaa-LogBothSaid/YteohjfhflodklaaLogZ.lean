/- Two logs on one disk, appended to by turns: what each step keeps. No condition. -/
import Derived.Test.YteohjfhflodklaaLogW
namespace Go.Proofs.Yteohjfhflodklaa
open Go.ChangeShapes Go.WideShapes Go.ChangeAt Go.RowKit Pen
open Crc (four nx run)
structure Both (w : World) (ga gb q p x : Nat) (d : Dk) (mm : Nat) (sa sb : List Nat) (ra rb : List (Nat × List Nat)) : Prop where
  la : LogAt w ga q sa (lenOf ra) (lastOf 0 ra) (bootOf 0 ra)
  lb : LogAt w gb q sb (lenOf rb) (lastOf 0 rb) (bootOf 0 rb)
  disk : DiskAt w q p d
  space : Sp.SpAt w x 96 (Sp.upTo mm)
  dead : d.dead = false
  fuse : d.fuse = none
  room : 8 + 8 * 96 ≤ d.secs.length
  le : mm ≤ 96
  lowa : ∀ s ∈ sa, s < mm
  lowb : ∀ s ∈ sb, s < mm
  fita : lenOf ra ≤ 8 * sa.length
  fitb : lenOf rb ≤ 8 * sb.length
  ata : At (pl d sa) 0 (lay 0 0 ra)
  atb : At (pl d sb) 0 (lay 0 0 rb)
  oka : ∀ y ∈ ra, Ok y
  okb : ∀ y ∈ rb, Ok y
  nodup : (sa ++ sb).Nodup
  ops : d.ops ≤ lenOf ra + lenOf rb + 100
  tighta : sa.length = segsN (lenOf ra)
  tightb : sb.length = segsN (lenOf rb)
  whole : mm = sa.length + sb.length
  ne : ga ≠ gb
theorem Both.swap {w : World} {ga gb q p x : Nat} {d : Dk} {mm : Nat} {sa sb : List Nat} {ra rb : List (Nat × List Nat)} (h : Both w ga gb q p x d mm sa sb ra rb) : Both w gb ga q p x d mm sb sa rb ra :=
  ⟨h.lb, h.la, h.disk, h.space, h.dead, h.fuse, h.room, h.le, h.lowb, h.lowa, h.fitb, h.fita, h.atb, h.ata, h.okb, h.oka, (List.perm_append_comm.nodup_iff).1 h.nodup, by have := h.ops; omega, h.tightb, h.tighta, by have := h.whole; omega, h.ne.symm⟩
theorem Both.below {w w' : World} {ga gb q p x : Nat} {d : Dk} {mm : Nat} {sa sb : List Nat} {ra rb : List (Nat × List Nat)} (h : Both w ga gb q p x d mm sa sb ra rb) (hb : Below w.heap.size w w') : Both w' ga gb q p x d mm sa sb ra rb :=
  ⟨h.la.below hb, h.lb.below hb, h.disk.below hb, h.space.below hb, h.dead, h.fuse, h.room, h.le, h.lowa, h.lowb, h.fita, h.fitb, h.ata, h.atb, h.oka, h.okb, h.nodup, h.ops, h.tighta, h.tightb, h.whole, h.ne⟩
theorem Both.but {S : Nat → Prop} {w w' : World} {ga gb q p x : Nat} {d : Dk} {mm : Nat} {sa sb : List Nat} {ra rb : List (Nat × List Nat)} (h : Both w ga gb q p x d mm sa sb ra rb) (hb : But S w w') (hn : NoInts S w) (hS : ∀ j, (j = q ∨ j = p ∨ j = x ∨ j = ga ∨ j = gb) → ¬ S j) : Both w' ga gb q p x d mm sa sb ra rb :=
  ⟨h.la.but hb hn (hS _ (.inr (.inr (.inr (.inl rfl))))), h.lb.but hb hn (hS _ (.inr (.inr (.inr (.inr rfl))))), h.disk.but hb (hS _ (.inl rfl)) (hS _ (.inr (.inl rfl))), h.space.but hb (hS _ (.inr (.inr (.inl rfl)))), h.dead, h.fuse, h.room, h.le, h.lowa, h.lowb, h.fita, h.fitb, h.ata, h.atb, h.oka, h.okb, h.nodup, h.ops, h.tighta, h.tightb, h.whole, h.ne⟩
theorem num_apart {sa sb : List Nat} (hn : (sa ++ sb).Nodup) {i j : Nat} (hi : i < 8 * sa.length) (hj : j < 8 * sb.length) : num sa i ≠ num sb j := by
  intro h
  unfold num at h
  have h1 : sa.getD (i / 8) 0 = sb.getD (j / 8) 0 := by omega
  have hi8 : i / 8 < sa.length := by omega
  have hj8 : j / 8 < sb.length := by omega
  rw [List.getD_eq_getElem?_getD, List.getD_eq_getElem?_getD, List.getElem?_eq_getElem hi8, List.getElem?_eq_getElem hj8] at h1
  simp only [Option.getD_some] at h1
  exact (List.nodup_append.1 hn).2.2 _ (List.getElem_mem hi8) _ (List.getElem_mem hj8) h1
/-- What Append does to the first of them. -/
def BPut (ga gb q p x : Nat) (d : Dk) (mm : Nat) (sa sb : List Nat) (ra rb : List (Nat × List Nat)) (bt : Nat) (r : List Nat) (w w' : World) (z : Int) : Prop :=
  (z = 0 ∧ MayBe bt r ∧ But (fun j => j = q ∨ j = p ∨ j = x ∨ j = ga) w w' ∧ ∃ d' mm' sa', Both w' ga gb q p x d' mm' sa' sb (ra ++ [(bt, r)]) rb)
  ∨ ((z = 1 ∨ z = 12) ∧ Below w.heap.size w w' ∧ Both w' ga gb q p x d mm sa sb ra rb)
theorem both_put {w : World} {ga gb q p x : Nat} {d : Dk} {mm : Nat} {sa sb : List Nat} {ra rb : List (Nat × List Nat)} (h : Both w ga gb q p x d mm sa sb ra rb) (bt : Nat) (a : Option Addr) (r : List Nat) (l c : Nat) (hl : r.length = l) (hr : Row w a r) :
    Calls Try.prog 16 #[.pointer (some ⟨ga, 0, none⟩), .pointer (some ⟨x, 0, none⟩), .int .i64 (bt : Int), .slice a l c] w fun e w' => ∃ z : Int, e = .returned (.int .i64 z) ∧ BPut ga gb q p x d mm sa sb ra rb bt r w w' z := by
  have hsys : Lsys w ga q p x d 96 mm sa (lenOf ra) (lastOf 0 ra) (bootOf 0 ra) := ⟨h.la, h.disk, h.space, h.dead, h.fuse, h.room, h.le, h.lowa, h.fita, by have := h.whole; omega⟩
  have hna := h.la.nle
  have hnb := h.lb.nle
  by_cases hm : MayBe bt r
  · have hops := h.ops
    refine (append_yes hsys bt a r l c hl hr hm (by omega)).mono ?_
    intro e w' hap
    unfold Appended at hap
    by_cases hc : segsN (lenOf ra + secsN r) ≤ sa.length + (96 - mm)
    · rw [if_pos hc] at hap
      obtain ⟨rfl, hsy, hb⟩ := hap
      obtain ⟨zt, hzt⟩ : ∃ zt, segsN (lenOf ra + secsN r) - sa.length = zt := ⟨_, rfl⟩
      rw [hzt] at hsy
      refine ⟨0, rfl, .inl ⟨rfl, hm, hb, lays d (sa ++ List.range' mm zt) (lenOf ra) (secsOf (lenOf ra) bt (mk (lastOf 0 ra) bt r)), mm + zt, sa ++ List.range' mm zt, ?_⟩⟩
      have hta := h.tighta
      have hfa := h.fita
      have hle := h.le
      have hnsa : sa.Nodup := (List.nodup_append.1 h.nodup).1
      have hnd := nodup_more (zt := zt) hnsa h.lowa
      have hlen : (sa ++ List.range' mm zt).length = sa.length + zt := by simp
      have hmz : mm + zt ≤ 96 := by rw [← hzt]; omega
      have hhas := has_more (d := d) h.lowa hmz (by decide) h.room
      have hsl : (secsOf (lenOf ra) bt (mk (lastOf 0 ra) bt r)).length = secsN r := by rw [secsOf_len, mk_len]; rfl
      have hll : lenOf (ra ++ [(bt, r)]) = lenOf ra + secsN r := by rw [lenOf_app, lenOf_one]; rfl
      have hfit2 : lenOf ra + secsN r ≤ 8 * (sa ++ List.range' mm zt).length := by rw [hlen, ← hzt]; unfold segsN; omega
      have ht2 : sa.length + zt = segsN (lenOf ra + secsN r) := by rw [← hzt, hta]; unfold segsN; omega
      have hlast : lastOf 0 (ra ++ [(bt, r)]) = nx (lastOf 0 ra) r := by rw [lastOf_app]; rfl
      have hboot : bootOf 0 (ra ++ [(bt, r)]) = bt := by rw [bootOf_app]; rfl
      have ht := h.disk.tag
      have hnd2 : ((sa ++ List.range' mm zt) ++ sb).Nodup := by
        refine List.nodup_append.2 ⟨hnd, (List.nodup_append.1 h.nodup).2.1, fun u hu v hv e => ?_⟩
        rcases List.mem_append.1 hu with hu | hu
        · exact (List.nodup_append.1 h.nodup).2.2 u hu v hv e
        · obtain ⟨i, _, rfl⟩ := List.mem_range'.1 hu
          have := h.lowb v hv
          omega
      have hgb : ¬ (gb = q ∨ gb = p ∨ gb = x ∨ gb = ga) := fun e => by
        rcases e with e | e | e | e
        · exact h.lb.tag.ne ht.1 (by decide) e
        · exact h.lb.tag.ne ht.2 (by decide) e
        · exact h.lb.tag.ne h.space.tag (by decide) e
        · exact h.ne e.symm
      have hni : NoInts (fun j => j = q ∨ j = p ∨ j = x ∨ j = ga) w := noInts_of (fun j e => by rcases e with rfl | rfl | rfl | rfl; exact ⟨66, ht.1, by decide⟩; exact ⟨86, ht.2, by decide⟩; exact ⟨69, h.space.tag, by decide⟩; exact ⟨71, h.la.tag, by decide⟩)
      refine ⟨?_, h.lb.but hb hni hgb, hsy.disk, hsy.space, hsy.dead, hsy.fuse, hsy.room, hmz, hsy.low, fun s hs => by have := h.lowb s hs; omega, ?_, h.fitb, at_append hnd hhas h.ata hfa hfit2, ?_, fun y hy => ?_, h.okb, hnd2, ?_, ?_, h.tightb, ?_, h.ne⟩
      · rw [hll, hlast, hboot]
        exact hsy.log
      · rw [hll]; exact hfit2
      · intro i hi
        rw [lay_len] at hi
        have h9 := h.atb i (by rw [lay_len]; exact hi)
        rw [Nat.zero_add] at h9 ⊢
        have hfb := h.fitb
        rw [← h9]
        exact read_lays _ hnd _ _ d (by rw [hsl]; exact hfit2) hhas _ (fun j h1 h2 => num_apart hnd2 (by rw [hsl] at h2; omega) (by omega))
      · rcases List.mem_append.1 hy with hy | hy
        · exact h.oka y hy
        · simp at hy
          subst hy
          obtain ⟨m1, m2, m3, m4⟩ := hm
          exact ⟨by simp only; omega, m1, m2, hr.1⟩
      · rw [(lays_facts d _ _ _).2.2.2, hsl, hll]
        omega
      · rw [hlen, hll]; exact ht2
      · rw [hlen]; have := h.whole; omega
    · rw [if_neg hc] at hap
      exact ⟨12, hap.1, .inr ⟨.inr rfl, hap.2, h.below hap.2⟩⟩
  · refine (append_no hsys bt a r l c hl hm).mono ?_
    rintro e w' ⟨rfl, rfl⟩
    exact ⟨1, rfl, .inr ⟨.inl rfl, Below.refl _ _, h⟩⟩
/-! ### Two rows of records -/
structure RecsB (s t : Nat) (w : World) (va vb : Value) (ra rb : List (List Nat)) : Prop where
  a : Recs (fun b => b < s) t w va ra
  b : Recs (fun b => b < s) t w vb rb
  apart : ∀ k, va.ownBlock = some k → vb.ownBlock ≠ some k
theorem RecsB.swap {s t : Nat} {w : World} {va vb : Value} {ra rb : List (List Nat)} (h : RecsB s t w va vb ra rb) : RecsB s t w vb va rb ra := ⟨h.b, h.a, fun k h1 h2 => h.apart k h2 h1⟩
theorem RecsB.below {s t : Nat} {w w' : World} {va vb : Value} {ra rb : List (List Nat)} (h : RecsB s t w va vb ra rb) (hb : Below w.heap.size w w') : RecsB s t w' va vb ra rb := ⟨h.a.below hb, h.b.below hb, h.apart⟩
theorem RecsB.but {S : Nat → Prop} {s t : Nat} {w w' : World} {va vb : Value} {ra rb : List (List Nat)} (h : RecsB s t w va vb ra rb) (hb : But S w w') (hS : ∀ j, S j → j < t ∧ s ≤ j) : RecsB s t w' va vb ra rb :=
  ⟨h.a.but hb (fun j e => by have := hS j e; omega), h.b.but hb (fun j e => by have := hS j e; omega), h.apart⟩
theorem RecsB.other {S : Nat → Prop} {s t : Nat} {w w' : World} {va vb : Value} {ra rb : List (List Nat)} (h : RecsB s t w va vb ra rb) (hb : But S w w') (hS : ∀ j, S j → s ≤ j ∧ ∃ ty, Tag w j ty ∧ ty ≠ 40) : RecsB s t w' va vb ra rb :=
  ⟨h.a.but2 hb (fun j e => by obtain ⟨h1, ty, h2, h3⟩ := hS j e; exact ⟨⟨ty, h2, h3⟩, by omega⟩), h.b.but2 hb (fun j e => by obtain ⟨h1, ty, h2, h3⟩ := hS j e; exact ⟨⟨ty, h2, h3⟩, by omega⟩), h.apart⟩
theorem Recs.but3 {R S : Nat → Prop} {base : Nat} {w w' : World} {v : Value} {rs : List (List Nat)} (h : Recs R base w v rs) (hb : But S w w') (h1 : ∀ k, S k → v.ownBlock ≠ some k ∧ ¬ R k) : Recs R base w' v rs := by
  obtain ⟨xs, ho, hx⟩ := h
  refine ⟨xs, ⟨ho.1, ?_⟩, fun i hi => ?_⟩
  · rcases ho.2 with h3 | ⟨g', cap', cur, he, hb', hg, hc⟩
    · exact .inl h3
    · exact .inr ⟨g', cap', cur, he, hb', (hb.block g' (Array.getElem?_eq_some_iff.1 hg).1 fun e => by rw [he] at h1; exact (h1 _ e).1 rfl).trans hg, hc⟩
  · obtain ⟨b, off, c, e1, e2, e3, e4, e5⟩ := hx i hi
    exact ⟨b, off, c, e1, e2.but hb (fun p e => by simp at e; subst e; exact fun hs => (h1 _ hs).2 e4), e3, e4, e5⟩
/-- One record more in the first row. -/
theorem RecsB.snoc {s t : Nat} {w : World} {vb : Value} {a : Option Addr} {n c : Nat} {ra rb : List (List Nat)} (h : RecsB s t w (.slice a n c) vb ra rb) (hst : s ≤ t) (hpast : t ≤ w.heap.size) (hn : ra.length = n) (hn6 : n ≤ 1000000) {b off m cc : Nat} {r : List Nat} (hr : Row w (some ⟨b, off, none⟩) r) (hm : r.length = m) (hne : r ≠ []) (hb : b < s) :
    ∃ g9 c9 w9, (Builtin.append_ #[22, 22] 22 #[.slice a n c, .slice (some ⟨w.heap.size, 0, none⟩) 1 1]).run Try.prog (w.alloc (.cells #[.slice (some ⟨b, off, none⟩) m cc] 40)) = .ok (.slice (some ⟨g9, 0, none⟩) (n + 1) c9) w9 ∧
      RecsB s t w9 (.slice (some ⟨g9, 0, none⟩) (n + 1) c9) vb (ra ++ [r]) rb ∧ Below s w w9 ∧ ∃ S : Nat → Prop, But S (w.alloc (.cells #[.slice (some ⟨b, off, none⟩) m cc] 40)) w9 ∧ ∀ j, S j → t ≤ j ∧ Tag (w.alloc (.cells #[.slice (some ⟨b, off, none⟩) m cc] 40)) j 40 := by
  subst hn
  obtain ⟨xs, hox, hxx⟩ := h.a
  have hxl : xs.length = ra.length := by have := hox.1; omega
  have hal : Below w.heap.size w (w.alloc (.cells #[.slice (some ⟨b, off, none⟩) m cc] 40)) := (Below.refl _ w).alloc (Nat.le_refl _) _
  have ho8 := owns_below hox hal
  obtain ⟨g9, c9, w9, hrun, ho9, hg9, hat9⟩ := app_one _ 22 40 22 24 (.slice none 0 0) Try.underlying22 info40s rfl (by decide) t (.slice a ra.length c) ra.length xs ho8 w.heap.size (.slice (some ⟨b, off, none⟩) m cc) (heap_alloc_new w _) rfl (by omega) (by simp; omega)
  have hvn : (Value.slice a ra.length c).ownBlock ≠ some b := fun e => by have := owns_block hox _ e; omega
  obtain ⟨hb9, _, _, _⟩ := after_app (lo := t) ho8 hg9
  have hbx := (below_but (fun j => t ≤ j) hal).trans hb9 (fun j e => .inl (owns_block ho8 _ e))
  refine ⟨g9, c9, w9, hrun, ⟨?_, ?_, ?_⟩, hbx.below (base := s) (fun j e => by omega) (by omega), _, hb9, fun j e => ⟨owns_block ho8 _ e, owns_tag ho8 e⟩⟩
  · exact Recs.snoc (rs := ra) xs hxx hxl hr hm hne hb hvn ho9 hg9 hat9
  · exact (h.b.below hal).but3 hb9 (fun k e => ⟨h.apart k e, by have := owns_block ho8 _ e; omega⟩)
  · intro k hk hkb
    simp [Value.ownBlock] at hk
    subst hk
    obtain ⟨ys, hoy, _⟩ := h.b
    have hlt := (owns_lt hoy hkb).1
    rcases hat9 with e | e
    · exact h.apart _ e hkb
    · simp at e; omega
end Go.Proofs.Yteohjfhflodklaa
