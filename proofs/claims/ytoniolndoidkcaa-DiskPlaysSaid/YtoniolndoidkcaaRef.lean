/- Where the document's own disk lies: its three slices, its rows, and what stays as it was. No condition. -/
import Derived.Test.YtoniolndoidkcaaMore
namespace Go.Proofs.Ytoniolndoidkcaa
open Go.RowKit
/-- Block b begins with the values f 0, f 1, .. up to n. -/
def Tab (w : World) (b : Nat) (t : TypeId) (n : Nat) (f : Nat → Value) : Prop := ∃ xs : Array Value, w.heap[b]? = some (.cells xs t (0, 0)) ∧ ∀ i, i < n → xs[i]? = some (f i)
theorem Tab.lt {w : World} {b : Nat} {t : TypeId} {n : Nat} {f : Nat → Value} (h : Tab w b t n f) : b < w.heap.size := by
  obtain ⟨xs, h1, _⟩ := h
  exact (Array.getElem?_eq_some_iff.1 h1).1
theorem Tab.cell {w : World} {b : Nat} {t : TypeId} {n : Nat} {f : Nat → Value} (h : Tab w b t n f) (i : Nat) (hi : i < n) : w.cell? ⟨b, i, none⟩ = some (f i) := by
  obtain ⟨xs, h1, h2⟩ := h
  rw [cell_of_row w b i xs t (0, 0) h1, h2 i hi]
theorem Tab.frozen {w : World} {b : Nat} {t : TypeId} {n : Nat} {f : Nat → Value} (h : Tab w b t n f) (i : Nat) : w.frozen? ⟨b, i, none⟩ = false := by
  obtain ⟨xs, h1, _⟩ := h
  exact frozen_of_row w b i xs t h1
theorem Tab.kept {w w' : World} {b : Nat} {t : TypeId} {n : Nat} {f : Nat → Value} (h : Tab w b t n f) (hk : w'.heap[b]? = w.heap[b]?) : Tab w' b t n f := by
  obtain ⟨xs, h1, h2⟩ := h
  exact ⟨xs, hk.trans h1, h2⟩
theorem Tab.below {w w' : World} {b : Nat} {t : TypeId} {n : Nat} {f : Nat → Value} (h : Tab w b t n f) (hb : Below w.heap.size w w') : Tab w' b t n f := h.kept (hb.block b h.lt)
theorem Tab.set {w : World} {b : Nat} {t : TypeId} {n : Nat} {f : Nat → Value} (h : Tab w b t n f) (i : Nat) (v : Value) : Tab (w.setCell ⟨b, i, none⟩ v) b t n (fun j => if j = i then v else f j) := by
  obtain ⟨xs, h1, h2⟩ := h
  refine ⟨_, heap_setCell_same _ _ _ _ _ _ h1, fun j hj => ?_⟩
  have h3 := h2 j hj
  obtain ⟨hlt, _⟩ := Array.getElem?_eq_some_iff.1 h3
  show _ = some (if j = i then v else f j)
  rw [Array.getElem?_setIfInBounds]
  by_cases e : i = j
  · subst e; simp [hlt]
  · have e2 : ¬ j = i := fun h => e h.symm
    rw [if_neg e, if_neg e2, h3]
theorem Tab.other {w : World} {b : Nat} {t : TypeId} {n : Nat} {f : Nat → Value} (h : Tab w b t n f) (a : Addr) (v : Value) (hne : b ≠ a.block) : Tab (w.setCell a v) b t n f := h.kept (Below.heap_setCell w a v b hne)
theorem Tab.congr {w : World} {b : Nat} {t : TypeId} {n : Nat} {f g : Nat → Value} (h : Tab w b t n f) (e : ∀ i, i < n → f i = g i) : Tab w b t n g := by
  obtain ⟨xs, h1, h2⟩ := h
  exact ⟨xs, h1, fun i hi => by rw [h2 i hi, e i hi]⟩
theorem Tab.type_ne {w : World} {b b' : Nat} {t t' : TypeId} {n n' : Nat} {f g : Nat → Value} (h : Tab w b t n f) (h' : Tab w b' t' n' g) (hne : t ≠ t') : b ≠ b' := by
  obtain ⟨xs, h1, _⟩ := h
  obtain ⟨ys, h2, _⟩ := h'
  intro e
  subst e
  rw [h1] at h2
  simp at h2
  exact hne h2.2
/-- Block g begins with the sixty-four bytes l. -/
def RBuf (w : World) (g : Nat) (l : List Nat) : Prop := Tab w g 5 64 (fun i => .int .u8 (l.getD i 0 : Nat)) ∧ Bytes l
theorem RBuf.row {w : World} {g : Nat} {l : List Nat} (h : RBuf w g l) : Row w (some ⟨g, 0, none⟩) l :=
  ⟨h.2.2, .inr ⟨g, 0, rfl, h.1.lt, fun i hi => by rw [Nat.zero_add]; exact h.1.cell i (by rw [← h.2.1]; exact hi)⟩⟩
theorem RBuf.kept {w w' : World} {g : Nat} {l : List Nat} (h : RBuf w g l) (hk : w'.heap[g]? = w.heap[g]?) : RBuf w' g l := ⟨h.1.kept hk, h.2⟩
theorem rbuf_of_owns {w : World} {base g cap : Nat} {l : List Nat} (h : w.ownsRow base 5 1 (.slice (some ⟨g, 0, none⟩) 64 cap) 64 (vals l)) (hl : Bytes l) : RBuf w g l ∧ base ≤ g := by
  rcases h.2 with ⟨h1, _⟩ | ⟨g', cap', cur, h1, hb, hg, hc, hm, hs, ht⟩
  · simp at h1
  · simp at h1
    obtain ⟨rfl, rfl⟩ := h1
    refine ⟨⟨⟨cur, hg, fun i hi => ?_⟩, hl⟩, hb⟩
    have h2 := vals_get l i (by rw [hl.1]; exact hi)
    rw [← ht, Nat.mul_one, List.getElem?_take, if_pos hi] at h2
    simpa using h2
theorem rbuf_new (w : World) (l : List Nat) (hl : Bytes l) : RBuf (w.alloc (.cells (row8 l) 5)) w.heap.size l :=
  ⟨⟨row8 l, heap_alloc_new w _, fun i hi => row8_get l i (by rw [hl.1]; exact hi)⟩, hl⟩
/-- Where the document's own disk lies. -/
structure RefMem where
  F : Nat
  C : Nat
  D : Nat
  fa : Option Addr
  ca : Option Addr
  da : Option Addr
  kf : Nat
  kc : Nat
  kd : Nat
  fr : Nat → Nat
  cr : Nat → Nat
  fc : Nat → Nat
  cc : Nat → Nat
  z : Int
def Dk.n (d : Dk) : Nat := d.secs.length
def Dk.sec (d : Dk) (i : Nat) : Sec := d.secs.getD i blank
structure RefOk (base : Nat) (w : World) (q : Nat) (R : RefMem) (d : Dk) : Prop where
  head : w.heap[q]? = some (.cells #[.slice R.fa d.n R.kf, .slice R.ca d.n R.kc, .slice R.da d.n R.kd, .int .i64 R.z, .int .i64 (d.ops : Int), .bool d.dead] 47 (0, 0))
  none_ : d.fuse = none → R.z = -1
  some_ : ∀ n : Nat, d.fuse = some n → R.z = (n : Int) ∧ n < 9223372036854775808
  ad : 0 < d.n → R.fa = some ⟨R.F, 0, none⟩ ∧ R.ca = some ⟨R.C, 0, none⟩ ∧ R.da = some ⟨R.D, 0, none⟩
  tf : 0 < d.n → Tab w R.F 23 d.n (fun i => .slice (some ⟨R.fr i, 0, none⟩) 64 (R.fc i))
  tc : 0 < d.n → Tab w R.C 23 d.n (fun i => .slice (some ⟨R.cr i, 0, none⟩) 64 (R.cc i))
  td : 0 < d.n → Tab w R.D 4 d.n (fun i => .bool (d.sec i).waits)
  rf : ∀ i, i < d.n → RBuf w (R.fr i) (d.sec i).safe
  rc : ∀ i, i < d.n → RBuf w (R.cr i) (d.sec i).last
  ne : 0 < d.n → R.F ≠ R.C
  inj : ∀ i j, i < d.n → j < d.n → (R.fr i = R.fr j → i = j) ∧ (R.cr i = R.cr j → i = j) ∧ R.fr i ≠ R.cr j
  caps : ∀ i, i < d.n → 64 ≤ R.fc i ∧ 64 ≤ R.cc i
  low : base ≤ q ∧ (0 < d.n → base ≤ R.F ∧ base ≤ R.C ∧ base ≤ R.D) ∧ ∀ i, i < d.n → base ≤ R.fr i ∧ base ≤ R.cr i
  ok : allOk d.secs ∧ d.n ≤ 776
/-- What an operation on the document's own disk leaves as it was: all that lies below base, and every block of another type. -/
structure RKeep (base : Nat) (w w' : World) : Prop where
  os : w'.os = w.os
  tape : w'.tape = w.tape
  output : w'.output = w.output
  size : w.heap.size ≤ w'.heap.size
  block : ∀ k, k < base → k < w.heap.size → w'.heap[k]? = w.heap[k]?
  disk : ∀ (k : Nat) (xs : Array Value) (t : TypeId), w.heap[k]? = some (Obj.cells xs t (0, 0)) → (t ≠ 47 ∧ t ≠ 23 ∧ t ≠ 4 ∧ t ≠ 5) → w'.heap[k]? = w.heap[k]?
theorem RKeep.refl (base : Nat) (w : World) : RKeep base w w := ⟨rfl, rfl, rfl, Nat.le_refl _, fun _ _ _ => rfl, fun _ _ _ _ _ => rfl⟩
theorem RKeep.trans {base : Nat} {w w1 w2 : World} (h : RKeep base w w1) (h1 : RKeep base w1 w2) : RKeep base w w2 where
  os := h1.os.trans h.os
  tape := h1.tape.trans h.tape
  output := h1.output.trans h.output
  size := Nat.le_trans h.size h1.size
  block := fun k hk hk2 => (h1.block k hk (Nat.lt_of_lt_of_le hk2 h.size)).trans (h.block k hk hk2)
  disk := fun k xs t hk ht => (h1.disk k xs t ((h.disk k xs t hk ht).trans hk) ht).trans (h.disk k xs t hk ht)
theorem RKeep.of_below {base : Nat} {w w' : World} (h : Below w.heap.size w w') : RKeep base w w' :=
  ⟨h.os, h.tape, h.output, h.size, fun k _ hk => h.block k hk, fun k _ _ hk _ => h.block k (Array.getElem?_eq_some_iff.1 hk).1⟩
theorem RKeep.of_set {base : Nat} {w : World} {b : Nat} {xs : Array Value} {t : TypeId} (hb : w.heap[b]? = some (.cells xs t (0, 0))) (h1 : t = 47 ∨ t = 23 ∨ t = 4 ∨ t = 5) (_h2 : True) (hl : base ≤ b) (i : Nat) (v : Value) : RKeep base w (w.setCell ⟨b, i, none⟩ v) := by
  refine ⟨rfl, rfl, rfl, by simp [World.setCell], fun k hk _ => Below.heap_setCell w _ v k (by show k ≠ b; omega), fun k ys t' hk ht => Below.heap_setCell w _ v k ?_⟩
  show k ≠ b
  intro e
  subst e
  rw [hb] at hk
  simp at hk
  rw [← hk.2] at ht
  rcases h1 with h | h | h | h <;> simp [h] at ht
theorem RKeep.of_setRow {base : Nat} {w : World} {b : Nat} {xs : Array Value} {t : TypeId} (hb : w.heap[b]? = some (.cells xs t (0, 0))) (h1 : t = 47 ∨ t = 23 ∨ t = 4 ∨ t = 5) (_h2 : True) (hl : base ≤ b) (cs : Array Value) : RKeep base w (w.setRow b cs) := by
  refine ⟨rfl, rfl, rfl, by simp [World.setRow], fun k hk _ => setRow_other w b k cs (by omega), fun k ys t' hk ht => setRow_other w b k cs ?_⟩
  intro e
  subst e
  rw [hb] at hk
  simp at hk
  rw [← hk.2] at ht
  rcases h1 with h | h | h | h <;> simp [h] at ht
theorem RKeep.drew {base : Nat} {w w' : World} (h : RKeep base w w') : RKeep base w w'.drew := ⟨h.os, h.tape, h.output, h.size, h.block, h.disk⟩
theorem RKeep.below {base : Nat} {w w' : World} (h : RKeep base w w') (hb : base ≤ w.heap.size) : Below base w w' := ⟨h.os, h.tape, h.output, h.size, fun k hk => h.block k hk (by omega)⟩
theorem DiskAt.rkeep {base : Nat} {w w' : World} {q p : Nat} {d : Dk} (h : DiskAt w q p d) (hk : RKeep base w w') : DiskAt w' q p d := by
  obtain ⟨z, h1, h2, h3⟩ := id h
  exact h.kept (hk.disk q _ _ h1 (by decide)) (hk.disk p _ _ h2 (by decide))
/-- All of the document's own disk lies as it lay. -/
theorem RefOk.kept {base : Nat} {w w' : World} {q : Nat} {R : RefMem} {d : Dk} (h : RefOk base w q R d) (hk : ∀ (k : Nat) (xs : Array Value) (t : TypeId), w.heap[k]? = some (Obj.cells xs t (0, 0)) → (t = 47 ∨ t = 23 ∨ t = 4 ∨ t = 5) → w'.heap[k]? = w.heap[k]?) : RefOk base w' q R d := by
  have hT : ∀ {b : Nat} {t : TypeId} {n : Nat} {f : Nat → Value}, Tab w b t n f → (t = 47 ∨ t = 23 ∨ t = 4 ∨ t = 5) → Tab w' b t n f := fun h1 ht => by
    obtain ⟨xs, h2, _⟩ := id h1
    exact h1.kept (hk _ xs _ h2 ht)
  exact { h with
    head := (hk q _ 47 h.head (.inl rfl)).trans h.head
    tf := fun hn => hT (h.tf hn) (.inr (.inl rfl))
    tc := fun hn => hT (h.tc hn) (.inr (.inl rfl))
    td := fun hn => hT (h.td hn) (.inr (.inr (.inl rfl)))
    rf := fun i hi => ⟨hT (h.rf i hi).1 (.inr (.inr (.inr rfl))), (h.rf i hi).2⟩
    rc := fun i hi => ⟨hT (h.rc i hi).1 (.inr (.inr (.inr rfl))), (h.rc i hi).2⟩ }
theorem RefOk.below {base : Nat} {w w' : World} {q : Nat} {R : RefMem} {d : Dk} (h : RefOk base w q R d) (hb : Below w.heap.size w w') : RefOk base w' q R d :=
  h.kept fun k _ _ hk _ => hb.block k (Array.getElem?_eq_some_iff.1 hk).1
theorem RefOk.drew {base : Nat} {w : World} {q : Nat} {R : RefMem} {d : Dk} (h : RefOk base w q R d) : RefOk base w.drew q R d := h.kept fun _ _ _ _ _ => rfl
theorem RefOk.only {base : Nat} {w w' : World} {q : Nat} {R : RefMem} {d : Dk} (h : RefOk base w q R d) {q' p' : Nat} {d' : Dk} (hd : DiskAt w q' p' d') (ho : Only q' (some p') w w') : RefOk base w' q R d :=
  h.kept fun k xs t hk ht => by
    obtain ⟨z, h1, h2, _⟩ := hd
    refine ho.block k (Array.getElem?_eq_some_iff.1 hk).1 ?_ ?_
    · intro e; subst e; rw [h1] at hk; simp at hk; rcases ht with rfl | rfl | rfl | rfl <;> simp at hk
    · intro e; simp at e; subst e; rw [h2] at hk; simp at hk; rcases ht with rfl | rfl | rfl | rfl <;> simp at hk
theorem RefOk.cells {base : Nat} {w : World} {q : Nat} {R : RefMem} {d : Dk} (h : RefOk base w q R d) :
    w.cell? ⟨q, 0, none⟩ = some (.slice R.fa d.n R.kf) ∧ w.cell? ⟨q, 1, none⟩ = some (.slice R.ca d.n R.kc) ∧ w.cell? ⟨q, 2, none⟩ = some (.slice R.da d.n R.kd) ∧ w.cell? ⟨q, 3, none⟩ = some (.int .i64 R.z) ∧ w.cell? ⟨q, 4, none⟩ = some (.int .i64 (d.ops : Int)) ∧ w.cell? ⟨q, 5, none⟩ = some (.bool d.dead) ∧ ∀ i, w.frozen? ⟨q, i, none⟩ = false := by
  refine ⟨?_, ?_, ?_, ?_, ?_, ?_, fun i => frozen_of_row w q i _ 47 h.head⟩ <;> rw [cell_of_row w q _ _ 47 (0, 0) h.head] <;> rfl
def upd {α : Type} (f : Nat → α) (i : Nat) (v : α) : Nat → α := fun j => if j = i then v else f j
theorem upd_self {α : Type} (f : Nat → α) (i : Nat) (v : α) : upd f i v i = v := by simp [upd]
theorem upd_ne {α : Type} (f : Nat → α) (i : Nat) (v : α) (j : Nat) (h : j ≠ i) : upd f i v j = f j := by simp [upd, h]
def Dk.turned (d : Dk) (i : Nat) (s : Sec) : Dk := { d with secs := d.secs.set i s }
theorem turned_n (d : Dk) (i : Nat) (s : Sec) : (d.turned i s).n = d.n := by simp [Dk.turned, Dk.n]
theorem turned_sec (d : Dk) (i : Nat) (s : Sec) (hi : i < d.n) (j : Nat) : (d.turned i s).sec j = if j = i then s else d.sec j := by
  have hi' : i < d.secs.length := hi
  by_cases e : j = i
  · subst e
    simp [Dk.turned, Dk.sec, hi']
  · have e2 : ¬ i = j := fun h => e h.symm
    simp [Dk.turned, Dk.sec, e, e2]
/-- One sector of the document's own disk is turned. -/
theorem RefOk.upd {base : Nat} {w w' : World} {q : Nat} {R : RefMem} {d : Dk} (h : RefOk base w q R d) (i : Nat) (hi : i < d.n) (s' : Sec) (hs' : s'.ok) (f' fk' c' ck' : Nat)
    (hq : w'.heap[q]? = w.heap[q]?)
    (tf : Tab w' R.F 23 d.n (fun j => if j = i then .slice (some ⟨f', 0, none⟩) 64 fk' else .slice (some ⟨R.fr j, 0, none⟩) 64 (R.fc j)))
    (tc : Tab w' R.C 23 d.n (fun j => if j = i then .slice (some ⟨c', 0, none⟩) 64 ck' else .slice (some ⟨R.cr j, 0, none⟩) 64 (R.cc j)))
    (td : Tab w' R.D 4 d.n (fun j => if j = i then .bool s'.waits else .bool (d.sec j).waits))
    (rf : RBuf w' f' s'.safe) (rc : RBuf w' c' s'.last)
    (ot : ∀ j, j < d.n → j ≠ i → w'.heap[R.fr j]? = w.heap[R.fr j]? ∧ w'.heap[R.cr j]? = w.heap[R.cr j]?)
    (nw : f' ≠ c' ∧ ∀ j, j < d.n → j ≠ i → f' ≠ R.fr j ∧ f' ≠ R.cr j ∧ c' ≠ R.fr j ∧ c' ≠ R.cr j) (hl : base ≤ f' ∧ base ≤ c') (hk : 64 ≤ fk' ∧ 64 ≤ ck') :
    RefOk base w' q { R with fr := upd R.fr i f', fc := upd R.fc i fk', cr := upd R.cr i c', cc := upd R.cc i ck' } (d.turned i s') := by
  have hn := turned_n d i s'
  have hsec := turned_sec d i s' hi
  have hpos : 0 < d.n := by omega
  refine ⟨by rw [hn]; exact hq.trans h.head, h.none_, h.some_, by rw [hn]; exact h.ad, ?_, ?_, ?_, ?_, ?_, by rw [hn]; exact h.ne, ?_, ?_, ?_, ?_⟩
  · rw [hn]; intro _
    refine tf.congr fun j _ => ?_
    by_cases e : j = i <;> simp [Proofs.Ytoniolndoidkcaa.upd, e]
  · rw [hn]; intro _
    refine tc.congr fun j _ => ?_
    by_cases e : j = i <;> simp [Proofs.Ytoniolndoidkcaa.upd, e]
  · rw [hn]; intro _
    refine td.congr fun j _ => ?_
    rw [hsec]
    by_cases e : j = i <;> simp [e]
  · rw [hn]; intro j hj
    rw [hsec]
    by_cases e : j = i
    · simp only [Proofs.Ytoniolndoidkcaa.upd, if_pos e]; exact rf
    · simp only [Proofs.Ytoniolndoidkcaa.upd, if_neg e]; exact (h.rf j hj).kept (ot j hj e).1
  · rw [hn]; intro j hj
    rw [hsec]
    by_cases e : j = i
    · simp only [Proofs.Ytoniolndoidkcaa.upd, if_pos e]; exact rc
    · simp only [Proofs.Ytoniolndoidkcaa.upd, if_neg e]; exact (h.rc j hj).kept (ot j hj e).2
  · rw [hn]; intro j k hj hk'
    simp only [Proofs.Ytoniolndoidkcaa.upd]
    by_cases ej : j = i
    · by_cases ek : k = i
      · rw [if_pos ej, if_pos ek, if_pos ej, if_pos ek]
        exact ⟨fun _ => ej.trans ek.symm, fun _ => ej.trans ek.symm, nw.1⟩
      · have := nw.2 k hk' ek
        rw [if_pos ej, if_neg ek, if_pos ej, if_neg ek]
        exact ⟨fun e => absurd e this.1, fun e => absurd e this.2.2.2, this.2.1⟩
    · by_cases ek : k = i
      · have := nw.2 j hj ej
        rw [if_neg ej, if_pos ek, if_neg ej, if_pos ek]
        exact ⟨fun e => absurd e.symm this.1, fun e => absurd e.symm this.2.2.2, fun e => this.2.2.1 e.symm⟩
      · rw [if_neg ej, if_neg ek, if_neg ej, if_neg ek]
        exact h.inj j k hj hk'
  · rw [hn]; intro j hj
    simp only [Proofs.Ytoniolndoidkcaa.upd]
    by_cases e : j = i
    · rw [if_pos e, if_pos e]; exact hk
    · rw [if_neg e, if_neg e]; exact h.caps j hj
  · rw [hn]
    refine ⟨h.low.1, h.low.2.1, fun j hj => ?_⟩
    simp only [Proofs.Ytoniolndoidkcaa.upd]
    by_cases e : j = i
    · rw [if_pos e, if_pos e]; exact hl
    · rw [if_neg e, if_neg e]; exact h.low.2.2 j hj
  · rw [hn]
    exact ⟨h.ok.1.set i hs', h.ok.2⟩
end Go.Proofs.Ytoniolndoidkcaa
