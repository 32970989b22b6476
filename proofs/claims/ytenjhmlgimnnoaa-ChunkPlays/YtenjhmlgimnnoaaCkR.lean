/- What Record and Parse answer. Condition: at most a hundred thousand bytes. -/
import Derived.Test.YtenjhmlgimnnoaaCkE
import Derived.Test.YtenjhmlgimnnoaaRefs
import Derived.Lib.ConvBytes
namespace Go.Proofs.Ytenjhmlgimnnoaa
open Go.ChangeShapes Go.WideShapes Go.ChangeAt Go.RowKit Pen
set_option maxRecDepth 4000
set_option linter.unusedVariables false
/-- Bytes that lie in a row of bytes. -/
def BRow (w : World) (a : Option Addr) (l : List Nat) : Prop := Row w a l ∧ (l = [] ∨ ∃ b off cs m, a = some ⟨b, off, none⟩ ∧ w.heap[b]? = some (.cells cs 5 m))
theorem BRow.keep {w w' : World} {a : Option Addr} {l : List Nat} (h : BRow w a l) (hs : w.heap.size ≤ w'.heap.size) (hk : ∀ (k : Nat) (cs : Array Value) (m : Nat × Nat), w.heap[k]? = some (Obj.cells cs 5 m) → w'.heap[k]? = some (Obj.cells cs 5 m)) : BRow w' a l := by
  obtain ⟨h1, h2⟩ := h
  rcases h2 with h2 | ⟨b, off, cs, m, rfl, hb⟩
  · subst h2
    exact ⟨row_nil _ _, .inl rfl⟩
  · refine ⟨⟨h1.1, ?_⟩, .inr ⟨b, off, cs, m, rfl, hk b cs m hb⟩⟩
    rcases h1.2 with h3 | ⟨b', off', e, hlt, hc⟩
    · exact .inl h3
    · cases e
      refine .inr ⟨b, off, rfl, Nat.lt_of_lt_of_le hlt hs, fun i hi => ?_⟩
      rw [← hc i hi]
      simp only [World.cell?, hk b cs m hb, hb]
theorem BRow.chg {q base : Nat} {w w' : World} {a : Option Addr} {l : List Nat} (h : BRow w a l) (hc : Chg q base w w') : BRow w' a l :=
  h.keep hc.size fun k cs m hk => hc.typ k cs 5 m hk (by decide) (by decide)
theorem BRow.below {w w' : World} {a : Option Addr} {l : List Nat} (h : BRow w a l) (hb : Below w.heap.size w w') : BRow w' a l :=
  h.keep hb.size fun k cs m hk => (hb.block k (lt_of_some hk)).trans hk
theorem brow_of_owns {w : World} {base g n cap : Nat} {l : List Nat} (hn : l.length = n) (h : w.ownsRow base 5 1 (.slice (some ⟨g, 0, none⟩) n cap) n (vals l)) (hl : ∀ x ∈ l, x < 256) : BRow w (some ⟨g, 0, none⟩) l := by
  refine ⟨(row_of_owns' hn h hl).2, .inr ?_⟩
  obtain ⟨_, cur, hc⟩ := owns_in h (by simp [Value.ownBlock] : (Value.slice (some ⟨g, 0, none⟩) n cap).ownBlock = some g)
  exact ⟨g, 0, cur, (0, 0), rfl, hc⟩
theorem bytes_below (w : World) (s : ByteArray) : Below w.heap.size w (Lib.bytesWorld w 5 s) := by
  refine ⟨?_, ?_, ?_, ?_, fun k hk => Lib.bytesWorld_at_old w 5 s k hk⟩
  · simp [Lib.bytesWorld, World.freeze, World.alloc, World.drew, -World.alloc_eq, -World.drew_eq]
  · simp [Lib.bytesWorld, World.freeze, World.alloc, World.drew, -World.alloc_eq, -World.drew_eq]
  · simp [Lib.bytesWorld, World.freeze, World.alloc, World.drew, -World.alloc_eq, -World.drew_eq]
  · rw [Lib.bytesWorld_size]; omega
theorem bytes_cell (w : World) (t : List Nat) (ht : ∀ x ∈ t, x < 256) (i : Nat) (hi : i < t.length) : (Lib.bytesWorld w 5 (strOf t)).cell? ⟨w.heap.size, i, none⟩ = some (.int .u8 (t.getD i 0 : Nat)) := by
  rw [Lib.bytesWorld_cell w 5 (strOf t) i (by rw [strOf_size]; exact hi)]
  have h1 := ht _ (List.getElem_mem hi)
  simp [strOf, List.getD, hi, Nat.mod_eq_of_lt h1]
theorem conv_any (w : World) (l : List Nat) (hl : ∀ x ∈ l, x < 256) : ∃ a cap w', (convert 9 27 (.string (strOf l))).run Try.prog w = .ok (.slice a l.length cap) w' ∧ BRow w' a l ∧ Below w.heap.size w w' := by
  have h := Lib.run_convert_string_bytes (P := Try.prog) w 9 27 5 (strOf l) Try.underlying9 Try.underlying27 Try.underlying5
  rw [strOf_size] at h
  refine ⟨_, _, _, h, ⟨⟨hl, .inr ⟨w.heap.size, 0, rfl, by rw [Lib.bytesWorld_size]; omega, fun i hi => ?_⟩⟩, .inr ⟨w.heap.size, 0, _, _, rfl, Lib.bytesWorld_at_new w 5 _⟩⟩, bytes_below w _⟩
  rw [Nat.zero_add]
  exact bytes_cell w l hl i hi
theorem str_at' {w : World} {a : Option Addr} {l : List Nat} {n cap : Nat} (hr : Row w a l) (hn : l.length = n) : ∀ W, Below w.heap.size w W → (convert 27 9 (.slice a n cap)).run Try.prog W = .ok (.string (strOf l)) W :=
  fun W hb => str_any W a l n cap hn (hr.below hb)
theorem lst_strOf (l : List Nat) (h : ∀ x ∈ l, x < 256) : lst (strOf l) = l := (strOf_inj (lst_lt _) h).1 (strOf_lst _)
set_option maxHeartbeats 1000000 in
theorem sclone_some {w : World} (ad : Addr) (l : List Nat) (n cap : Nat) (hn : l.length = n) (hr : Row w (some ad) l) (hne : l ≠ []) (hl : l.length ≤ 900000000) :
    Calls Try.prog 45 #[.slice (some ad) n cap] w fun e w' => ∃ g cap', e = .returned (.slice (some ⟨g, 0, none⟩) n cap') ∧ w'.ownsRow w.heap.size 5 1 (.slice (some ⟨g, 0, none⟩) n cap') n (vals l) ∧ Below w.heap.size w w' := by
  have HN : Hid (l.length = n) := hn
  have HR : Hid (Row (w.alloc (.cells #[] 5)) (some ad) l) := hr.below ((Below.refl _ w).alloc (Nat.le_refl _) _)
  have HOW : Hid ((w.alloc (.cells #[] 5)).ownsRow w.heap.size 5 1 (.slice (some ⟨w.heap.size, 0, none⟩) 0 0) ([] : List Nat).length (vals [])) := owns_empty w
  have HS : Hid (([] : List Nat).length + l.length ≤ 1000000000) := by show _ ≤ _; simp; omega
  have HB : Hid (w.heap.size ≤ (w.alloc (.cells #[] 5)).heap.size) := by show _ ≤ _; simp
  have hlt := hr.1
  have heq := fun w => eq_nil_some w ad n cap
  clear hn hr
  go_enter Try.func45, Try.ntmps45
  have tok : True := trivial
  go_wp2_with (at_builtin; have _t := tok; refine wpList_append_row _ rfl _ _ rfl w.heap.size (.slice (some ⟨w.heap.size, 0, none⟩) 0 0) [] rfl HOW.out _ l n cap rfl HN.out HR.out hne HS.out HB.out ?_; intro g m cap' w1 hm hown1 hg1 hat; rw [List.nil_append] at hm hown1; have HX := hid hown1; have HG := hid hg1; have HM := hid hm; clear tok hm hown1 hg1 hat)
  go_ret
  have e1 := HM.out
  rw [HN.out] at e1
  subst e1
  have hb := ((Below.refl w.heap.size w).alloc (Nat.le_refl _) (.cells #[] 5)).grown HG.out HB.out (fun k hk => by simp [Value.ownBlock] at hk; omega)
  exact ⟨g, cap', rfl, HX.out, hb⟩
theorem pbytes_any {base : Nat} {w : World} {q : Nat} {o : Option Nat} {l : List Nat} (hne : l ≠ []) (hl : l.length ≤ 900000000) (h : PenAt base w q o l) :
    Calls Try.prog 32 #[.pointer (some ⟨q, 0, none⟩)] w fun e w' => ∃ g cap', e = .returned (.slice (some ⟨g, 0, none⟩) l.length cap') ∧ w'.ownsRow w.heap.size 5 1 (.slice (some ⟨g, 0, none⟩) l.length cap') l.length (vals l) ∧ Below w.heap.size w w' := by
  obtain ⟨v, hv, hown, rfl, hq, hl2⟩ := h
  obtain ⟨g, cap, rfl, _, _⟩ := hown.form (List.length_pos_iff.2 hne)
  obtain ⟨a, c, e, h1, h2, h3⟩ := row_of_owns hown hl2
  simp at e
  obtain ⟨rfl, rfl⟩ := e
  have hc := hv.cell
  have kc := sclone_some ⟨g, 0, none⟩ l l.length cap rfl h3 hne hl
  obtain ⟨n, hn⟩ : ∃ n, l.length = n := ⟨_, rfl⟩
  rw [hn] at kc hc ⊢
  clear hown hv hq hl2 h3
  go_enter Try.func32, Try.ntmps32
  go_wp2_with fail
  refine kc.mono ?_
  rintro e w1 ⟨g', cap', rfl, h5, h6⟩
  go_wp2_with fail
  go_ret
  exact ⟨g', cap', rfl, h5, h6⟩
set_option maxHeartbeats 400000 in
theorem record_any (W : World) (z : Int) (hz : z < 9223372036854775808) (a : Option Addr) (l : List Nat) (m cap : Nat) (hm : l.length = m) (hr : Row W a l) (hl : m ≤ 100000) :
    Calls Try.prog 17 #[.int .i64 z, .slice a m cap] W fun e w' => ∃ g cap', e = .returned (.slice (some ⟨g, 0, none⟩) (num z.toNat ++ text l).length cap') ∧ w'.ownsRow W.heap.size 5 1 (.slice (some ⟨g, 0, none⟩) (num z.toNat ++ text l).length cap') (num z.toNat ++ text l).length (vals (num z.toNat ++ text l)) ∧ Below W.heap.size W w' := by
  have HP0 := hid (PenAt.new W.heap.size W (Nat.le_refl _))
  have hb0 : Below W.heap.size W (W.alloc (.cells #[.slice none 0 0] 69)) := (Below.refl _ W).alloc (Nat.le_refl _) _
  have HB0 := hid hb0
  have HR := hid hr
  have HM := hid hm
  have HLST := hid (lst_strOf l hr.1)
  have hsz : (strOf l).size ≤ 100000000 := by rw [strOf_size]; omega
  have HSZ := hid hsz
  clear hb0 hr hm
  go_enter Try.func17, Try.ntmps17
  go_wp2_with fail
  refine (Pen.wnum_any z hz (by simp) HP0.out).mono ?_
  rintro e w1 ⟨rfl, o1, hp1, ho1, _⟩
  have HP1 := hid hp1
  have hb1 := ho1.pen HP0.out
  have HB1 := hid (HB0.out.trans hb1)
  have hcv := str_at' (cap := cap) HR.out HM.out _ (HB0.out.trans hb1)
  have hn10 := num_len10 z.toNat (by omega)
  clear hp1 ho1 hb1 HP0
  go_wp2_with fail
  refine (Pen.wtext_any (strOf l) HSZ.out (by simp; omega) HP1.out).mono ?_
  rintro e w2 ⟨rfl, o2, hp2, ho2⟩
  rw [HLST.out, List.nil_append] at hp2
  have HB2 := hid (HB1.out.trans (ho2.pen HP1.out))
  have HP2 := hid hp2
  have hne : num z.toNat ++ text l ≠ [] := by
    intro e
    exact num_ne _ (List.append_eq_nil_iff.1 e).1
  have hlen : (num z.toNat ++ text l).length ≤ 900000000 := by
    have h1 := num_len10 l.length (by have := HM.out; omega)
    have h2 := HM.out
    rw [List.length_append, text, List.length_append]
    omega
  clear hp2 ho2 hcv
  go_wp2_with fail
  refine (pbytes_any hne hlen HP2.out).mono ?_
  rintro e w3 ⟨g, cap', rfl, ho3, hb3⟩
  have HO3 := hid ho3
  have HB3 := hid (HB2.out.trans (hb3.mono HB2.out.size))
  have hs2 := HB2.out.size
  clear ho3 hb3 hne hlen
  generalize hL : num z.toNat ++ text l = L at *
  have HL := hid hL
  clear hL
  go_wp2_with fail
  go_ret
  rw [HL.out]
  exact ⟨g, cap', rfl, owns_up HO3.out hs2, HB3.out⟩
/-- What a record was made of. -/
def parse (l : List Nat) : Option (Nat × List Nat) := if (eNum 9 0 0 l).2.2 = true ∨ (eText (eNum 9 0 0 l).2.1).2.2 = true ∨ 0 < (eText (eNum 9 0 0 l).2.1).2.1.length then none else some ((eNum 9 0 0 l).1, (eText (eNum 9 0 0 l).2.1).1)
theorem eText_lt {l : List Nat} (h : ∀ x ∈ l, x < 256) : ∀ x ∈ (eText l).1, x < 256 := by
  obtain ⟨k, hk⟩ := eNum_sub 9 0 0 l
  unfold eText eTake
  intro x hx
  split at hx
  · simp at hx
  · rw [hk] at hx
    exact h x (List.mem_of_mem_drop (List.mem_of_mem_take hx))
theorem eNum_lt {l : List Nat} (h : ∀ x ∈ l, x < 256) : ∀ x ∈ (eNum 9 0 0 l).2.1, x < 256 := by
  obtain ⟨k, hk⟩ := eNum_sub 9 0 0 l
  rw [hk]
  exact fun x hx => h x (List.mem_of_mem_drop hx)
def Parsed (w' : World) (e : Ending) (r : Option (Nat × List Nat)) : Prop := match r with
  | none => e = .returned (.tuple #[.int .i64 0, .slice none 0 0, .int .i64 2])
  | some (n, b) => ∃ a cap, e = .returned (.tuple #[.int .i64 (n : Int), .slice a b.length cap, .int .i64 0]) ∧ BRow w' a b
set_option maxHeartbeats 400000 in
theorem parse_any (W : World) (a : Option Addr) (l : List Nat) (m cap : Nat) (hm : l.length = m) (hr : Row W a l) :
    Calls Try.prog 20 #[.slice a m cap] W fun e w' => Parsed w' e (parse l) ∧ Below W.heap.size W w' := by
  have hb0 : Below W.heap.size W (W.alloc (.cells #[.string (strOf l), .bool false] 85)) := (Below.refl _ W).alloc (Nat.le_refl _) _
  have HB0 := hid hb0
  have HE0 := hid (Pen.EyeAt.new W l hr.1)
  have HM := hid hm
  have HR := hid hr
  clear hb0
  go_enter Try.func20, Try.ntmps20
  go_wp2_with fail
  refine (Pen.new_any a l m cap HM.out HR.out).mono ?_
  rintro e w1 ⟨rfl, rfl⟩
  generalize W.alloc (.cells #[.string (strOf l), .bool false] 85) = w1 at *
  have hle := eNum_le 9 0 0 l
  clear hm hr
  go_wp2_with fail
  refine (Pen.num_any HE0.out).mono ?_
  rintro e w2 ⟨rfl, he2, ho2⟩
  have HE2 := hid he2
  have HB2 := hid (HB0.out.trans (ho2.below (Nat.le_refl _) (fun k h => by cases h) HB0.out.size))
  clear he2 ho2
  go_wp2_with fail
  refine (Pen.text_any HE2.out).mono ?_
  rintro e w3 ⟨rfl, he3, ho3⟩
  have HE3 := hid he3
  have HB3 := hid (HB2.out.trans (ho3.below (Nat.le_refl _) (fun k h => by cases h) HB2.out.size))
  clear he3 ho3
  obtain ⟨x, hx⟩ : ∃ x, eNum 9 0 0 l = x := ⟨_, rfl⟩
  have hlt1 := eNum_lt HR.out.1
  have hpar : parse l = if x.2.2 = true ∨ (eText x.2.1).2.2 = true ∨ 0 < (eText x.2.1).2.1.length then none else some (x.1, (eText x.2.1).1) := by unfold parse; rw [hx]
  have HPAR := hid hpar
  rw [hx] at HE2 HE3 hle hlt1 ⊢
  have hlt2 := eText_lt hlt1
  obtain ⟨x1, x2, x3⟩ := x
  simp only [Bool.false_or] at *
  obtain ⟨y, hy⟩ : ∃ y, eText x2 = y := ⟨_, rfl⟩
  rw [hy] at HE3 HPAR hlt2 ⊢
  obtain ⟨y1, y2, y3⟩ := y
  simp only at *
  have HLT := hid hlt2
  clear hx hy hpar hlt1 hlt2
  cases hbad : (x3 || y3)
  · rw [hbad] at HE3
    by_cases hz : 0 < y2.length
    · have hp : parse l = none := by rw [HPAR.out, if_pos (.inr (.inr hz))]
      have g1 : (0 : Int) < (y2.length : Int) := by omega
      have HPN := hid hp
      clear hp hbad
      go_wp2_with fail
      refine (Pen.bad_any HE3.out).mono ?_
      rintro e w4 ⟨rfl, rfl⟩
      go_wp2_with fail
      refine (Pen.left_any HE3.out).mono ?_
      rintro e w5 ⟨rfl, rfl⟩
      go_wp2_with fail
      go_ret3
      rw [HPN.out]
      exact ⟨rfl, HB3.out⟩
    · have hxy : x3 = false ∧ y3 = false := by simpa using hbad
      have hno : ¬ (x3 = true ∨ y3 = true ∨ 0 < y2.length) := by
        rintro (h | h | h)
        · rw [hxy.1] at h; cases h
        · rw [hxy.2] at h; cases h
        · exact hz h
      have hp : parse l = some (x1, y1) := by rw [HPAR.out, if_neg hno]
      clear hno
      have g1 : ¬ (0 : Int) < (y2.length : Int) := by omega
      have HPN := hid hp
      obtain ⟨ac, cc, w6, hrun, hbr, hb6⟩ := conv_any w3 y1 HLT.out
      have HBR := hid hbr
      have HB6 := hid (HB3.out.trans (hb6.mono HB3.out.size))
      obtain ⟨yl, hyl⟩ : ∃ yl, y1.length = yl := ⟨_, rfl⟩
      have HYL := hid hyl
      rw [hyl] at hrun
      clear hp hbad hbr hb6 hyl hxy
      go_wp2_with fail
      refine (Pen.bad_any HE3.out).mono ?_
      rintro e w4 ⟨rfl, rfl⟩
      go_wp2_with fail
      refine (Pen.left_any HE3.out).mono ?_
      rintro e w5 ⟨rfl, rfl⟩
      go_wp2_with fail
      go_ret3
      rw [HPN.out]
      exact ⟨⟨ac, cc, by rw [HYL.out]; rfl, HBR.out⟩, HB6.out⟩
  · rw [hbad] at HE3
    have hp : parse l = none := by
      rw [HPAR.out, if_pos]
      cases x3 <;> simp_all
    have HPN := hid hp
    clear hp hbad
    go_wp2_with fail
    refine (Pen.bad_any HE3.out).mono ?_
    rintro e w4 ⟨rfl, rfl⟩
    go_wp2_with fail
    go_ret3
    rw [HPN.out]
    exact ⟨rfl, HB3.out⟩
end Go.Proofs.Ytenjhmlgimnnoaa
