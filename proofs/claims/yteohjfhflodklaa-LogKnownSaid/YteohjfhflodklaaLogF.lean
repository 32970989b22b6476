/- What take, give, New, Where, Give and lies of log do. Condition: segments that there are. -/
import Derived.Test.YteohjfhflodklaaLogE
namespace Go.Proofs.Yteohjfhflodklaa
open Go.RowKit Pen
set_option maxRecDepth 4000
theorem owns_but {S : Nat → Prop} {w w' : World} {base e n : Nat} {v : Value} {xs : List Value} (h : w.ownsRow base e 1 v n xs) (hb : But S w w') (hs : ∀ k, S k → k < base) : w'.ownsRow base e 1 v n xs := by
  refine ⟨h.1, ?_⟩
  rcases h.2 with h3 | ⟨g', cap', cur, he, hb', hg, hc⟩
  · exact .inl h3
  · exact .inr ⟨g', cap', cur, he, hb', (hb.block g' (Array.getElem?_eq_some_iff.1 hg).1 fun e => by have := hs _ e; omega).trans hg, hc⟩
theorem grown_but {w w' : World} {o : Option Nat} (S : Nat → Prop) (h : w.grownBy w' o) (ho : ∀ k, o = some k → S k) : But S w w' :=
  ⟨h.os, h.tape, h.output, h.size, fun k hk hs => h.block k hk fun e => hs (ho k e.symm)⟩
theorem owns_block {w : World} {base e : Nat} {v : Value} {n : Nat} {xs : List Value} (h : w.ownsRow base e 1 v n xs) (k : Nat) (hk : v.ownBlock = some k) : base ≤ k := (owns_lt h hk).2
theorem ivals_snoc (m i : Nat) : ivals (iv (List.range' m i)) ++ [.int .i64 ((m + i : Nat) : Int)] = ivals (iv (List.range' m (i + 1))) := by
  rw [List.range'_1_concat]; simp [ivals, iv]
set_option maxHeartbeats 2000000 in
theorem take_segs {w : World} {x k m : Nat} (h : Sp.SpAt w x k (Sp.upTo m)) (z : Int) (hz : m + z.toNat ≤ k) (hz2 : z < 1000) : Calls Try.prog 31 #[.pointer (some ⟨x, 0, none⟩), .int .i64 z] w fun e w' =>
    ∃ v, e = .returned v ∧ w'.ownsRow w.heap.size 3 1 v (iv (List.range' m z.toNat)).length (ivals (iv (List.range' m z.toNat))) ∧ Sp.SpAt w' x k (Sp.upTo (m + z.toNat)) ∧ But (fun j => j = x) w w' := by
  have H := hid h
  have hk := h.le
  have hx := h.lt
  obtain ⟨c, hc⟩ : ∃ c, z.toNat = c := ⟨_, rfl⟩
  rw [hc] at hz ⊢
  have HC := hid hc
  clear h hc
  go_enter Try.func31, Try.ntmps31
  go_wp2_with fail
  go_loopg [5, 9] c (fun gk v5 v9 wr => ∃ i : Nat, i + gk = c ∧ v9 = .int .i64 (i : Int) ∧ wr.ownsRow w.heap.size 3 1 v5 i (ivals (iv (List.range' m i))) ∧ Sp.SpAt wr x k (Sp.upTo (m + i)) ∧ But (fun j => j = x) w wr)
  case atStart => exact ⟨0, by omega, rfl, World.ownsRow_nil _ _ 3 1, H.out, But.refl _ _⟩
  case round =>
    obtain ⟨i, hi, rfl, ho, hs, hb⟩ := hrel
    clear H
    by_cases hlt : i < c
    · have hlt' : (i : Int) < z := by have := HC.out; omega
      obtain ⟨a0, c0, rfl⟩ := owns_slice ho
      have HO := hid ho
      have HS := hid hs
      have HB := hid hb
      clear ho hs hb
      go_wp2_with fail
      refine (Sp.take_any HS.out).mono ?_
      rintro e w1 ⟨h1 | ⟨_, h2, _⟩, ho1⟩
      · obtain ⟨j, rfl, hL, hs1⟩ := h1
        obtain rfl := Sp.upTo_least hk (by omega) hL
        rw [Sp.upTo_set] at hs1
        have hb1 := ho1.but
        have hsz := hb1.size
        have HS1 := hid hs1
        have hOW := owns_but HO.out hb1 (fun k e => by rcases e with rfl | e; exact hx; simp at e)
        have HO1 : Hid ((w1.alloc (.cells #[.int .i64 ((m + i : Nat) : Int)] 3)).ownsRow w.heap.size 3 1 (.slice a0 i c0) i (ivals (iv (List.range' m i)))) := owns_below hOW ((Below.refl _ _).alloc (Nat.le_refl _) _)
        have HB1 := hid (HB.out.trans hb1 (fun k e => .inl (by rcases e with rfl | e; rfl; simp at e)))
        have hsz2 := HB.out.size
        have HY : Hid ((w1.alloc (.cells #[.int .i64 ((m + i : Nat) : Int)] 3)).heap[w1.heap.size]? = some (.cells #[.int .i64 ((m + i : Nat) : Int)] 3 (0, 0))) := heap_alloc_new _ _
        have hmi : ((m : Int) + (i : Int)) = ((m + i : Nat) : Int) := by omega
        generalize hN : ((m + i : Nat) : Int) = N at *
        clear hL hs1 ho1 hb1 hOW hmi
        go_wp2_with (at_builtin; refine wpList_app_one _ 33 3 rfl _ _ rfl 8 (.int .i64 0) Try.underlying33 info3 rfl (by decide) w.heap.size _ i _ rfl HO1.out w1.heap.size _ rfl HY.out rfl (by omega) (by simp; omega) ?_; intro g2 cp2 w2 ho2 hg2 hat2; have HO2 := hid ho2; have HG2 := hid hg2; clear ho2 hg2 hat2)
        go_roundg (gk - 1)
        case measure => omega
        case rel =>
          refine ⟨i + 1, by omega, by go_num, ?_, ?_, ?_⟩
          · have := HO2.out
            rw [← hN, ivals_snoc] at this
            exact this
          · have hbb := grown_but (fun k => w.heap.size ≤ k) HG2.out (fun k e => owns_block HO1.out k e)
            exact (HS1.out.below ((Below.refl _ _).alloc (Nat.le_refl _) _)).but hbb (by omega)
          · refine HB1.out.trans (T := fun k => w.heap.size ≤ k) ?_ (fun k e => .inr e)
            refine (below_but _ ((Below.refl _ _).alloc (Nat.le_refl _) (.cells #[.int .i64 N] 3))).trans (grown_but (fun k => w.heap.size ≤ k) HG2.out (fun k e => owns_block HO1.out k e)) (fun k e => .inl e)
      · exact (Sp.upTo_not_full hk (by omega) h2).elim
    · have hlt' : ¬ (i : Int) < z := by have := HC.out; omega
      obtain rfl : i = c := by omega
      obtain ⟨a0, c0, rfl⟩ := owns_slice ho
      have HQ := hid (And.intro ho (And.intro hs hb))
      clear ho hs hb
      go_wp2_with fail
      go_ret
      obtain ⟨ho, hs, hb⟩ := HQ.out
      exact ⟨_, rfl, by rw [iv_len, List.length_range']; exact ho, hs, hb⟩
def giveAll (t : List Bool) (l : List Nat) : List Bool := l.foldl (fun t i => if t.getD i false then t.set i false else t) t
set_option maxHeartbeats 2000000 in
theorem give_segs {w : World} {x k : Nat} {t : List Bool} (h : Sp.SpAt w x k t) (a : Option Addr) (l : List Nat) (n c : Nat) (hn : l.length = n) (hr : SRow w a (iv l)) (hl : ∀ s ∈ l, s < k) (hn1 : n ≤ 1000000) : Calls Try.prog 34 #[.pointer (some ⟨x, 0, none⟩), .slice a n c] w fun e w' =>
    e = .returned (.tuple #[]) ∧ Sp.SpAt w' x k (giveAll t l) ∧ But (fun j => j = x) w w' := by
  have H := hid h
  have hx := h.tag
  have HNI := hid (noInts_of (S := fun j => j = x) (fun j e => ⟨69, e ▸ hx, by decide⟩))
  have HR := hid hr
  have HL := hid hl
  have HN := hid hn
  clear h hn hr hl hx
  go_enter Try.func34, Try.ntmps34
  go_wp2_with fail
  go_loopg [8] n (fun gk v8 wr => ∃ i : Nat, i + gk = n ∧ v8 = .int .i64 (i : Int) ∧ Sp.SpAt wr x k (giveAll t (l.take i)) ∧ But (fun j => j = x) w wr)
  case atStart => exact ⟨0, by omega, rfl, H.out, But.refl _ _⟩
  case round =>
    obtain ⟨i, hi, rfl, hs, hb⟩ := hrel
    clear H
    by_cases hlt : i < n
    · have hlt' : (i : Int) < (n : Int) := by omega
      have hli : i < l.length := by rw [HN.out]; exact hlt
      have hm : l.getD i 0 < k := getD_mem_lt hli HL.out
      obtain ⟨b, off, rfl, _, hc⟩ := (HR.out.but hb HNI.out).irow.cell (by intro e; have := iv_len l; rw [e, HN.out] at this; simp at this; omega)
      have hc1 := hc i (by rw [iv_len]; exact hli)
      rw [iv_get] at hc1
      have HG : Hid (giveAll t (l.take (i + 1)) = if (giveAll t (l.take i)).getD (l.getD i 0) false then (giveAll t (l.take i)).set (l.getD i 0) false else giveAll t (l.take i)) := by
        show _ = _
        rw [List.take_succ_eq_append_getElem hli, giveAll, List.foldl_append]
        simp [giveAll, hli]
      have HS := hid hs
      have HB := hid hb
      generalize l.getD i 0 = s at *
      clear hs hb hc
      go_wp2_with fail
      refine (Sp.give_in HS.out s hm).mono ?_
      rintro e w1 ⟨rfl, hs1, ho1⟩
      rw [← HG.out] at hs1
      have HS1 := hid hs1
      have HB1 := hid (HB.out.trans ho1.but (fun k e => .inl (by rcases e with rfl | e; rfl; simp at e)))
      clear hs1 ho1
      go_wp2_with fail
      go_roundg (gk - 1)
      case measure => omega
      case rel => exact ⟨i + 1, by omega, by go_num, HS1.out, HB1.out⟩
    · have hlt' : ¬ (i : Int) < (n : Int) := by omega
      obtain rfl : i = n := by omega
      rw [List.take_of_length_le (by rw [HN.out]; exact Nat.le_refl _)] at hs
      have HQ := hid (And.intro hs hb)
      clear hs hb
      go_wp2_with fail
      go_end0
      exact ⟨rfl, HQ.out⟩
end Go.Proofs.Yteohjfhflodklaa
