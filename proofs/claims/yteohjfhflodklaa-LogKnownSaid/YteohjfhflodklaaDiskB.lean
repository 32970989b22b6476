/- What a disk's Write and Read do. Condition: fewer than a thousand million operations were done. -/
import Derived.Test.YteohjfhflodklaaDiskA
namespace Go.Proofs.Yteohjfhflodklaa
open Go.RowKit
set_option maxRecDepth 4000
theorem one5 : (Try.prog.info? 5).map (·.size) = some 1 := by kernel_rfl
theorem step_copy {ops : Array Oper} {rest : List Oper} {op : Oper} {a : Act} {w : World} {Q : Exit → Act → World → Prop} (hgd : op.guard = none) (d s : Operand)
    (ho : op.op = .call { callee := .builtin .copy, args := #[d, s], argTypes := #[40, 40] }) (g off dLen dCap : Nat) (src : Option Addr) (sLen sCap : Nat)
    (hd : a.eval d = .slice (some ⟨g, off, none⟩) dLen dCap) (hs : a.eval s = .slice src sLen sCap) (cur : List Value) (t : TypeId) (hg : w.heap[g]? = some (.cells cur.toArray t (0, 0)))
    (b : List Nat) (hn : b.length = Nat.min sLen dLen) (hr : Row w src b) (hfit : off + b.length ≤ cur.length)
    (h : ∀ w', w' = w.setRow g (splice cur off (vals b)).toArray → wpList Try.prog ops Q rest (a.put op.dst (goInt b.length)) w') : wpList Try.prog ops Q (op :: rest) a w := by
  rcases hr.2 with rfl | ⟨b0, o0, rfl, _, hc⟩
  · refine wpList_copy_nothing hgd d s 40 40 ho 5 Try.underlying40 one5 _ _ _ _ _ _ hd hs (by simpa using hn.symm) ?_
    exact h w (by simp [splice, vals, setRow_self w g cur.toArray t (0, 0) hg])
  · refine wpList_copy_own hgd d s 40 40 ho 5 Try.underlying40 one5 g off dLen dCap ⟨b0, o0, none⟩ sLen sCap hd hs cur.toArray t hg (vals b) (by rw [vals_len]; exact hn) (news_of hc) (by simpa [vals_len] using hfit) (vals_one b) ?_
    rw [vals_len]
    refine h _ ?_
    simp [splice, vals_len]
def Dk.put (d : Dk) (i : Nat) (b : List Nat) : Dk := { d with secs := d.secs.set i { d.secs.getD i blank with cached := b, waits := true } }
theorem Sec.ok.put {s : Sec} (h : s.ok) {b : List Nat} (hb : Bytes b) (t : Bool) : Sec.ok { s with cached := b, waits := t } := ⟨h.1, hb⟩
/-- The bytes of b, and then the mark, are laid into sector i. -/
theorem DiskAt.put {w : World} {q p : Nat} {d : Dk} (h : DiskAt w q p d) (i : Nat) (hi : i < d.secs.length) (b : List Nat) (hb : Bytes b) :
    ∃ w1, w1 = w.setRow p (splice (secsCells d.secs) (i * 129 + 64) (vals b)).toArray ∧ (w1.cell? ⟨p, i * 129 + 128, none⟩).isSome = true ∧ w1.frozen? ⟨p, i * 129 + 128, none⟩ = false ∧
      DiskAt (w1.setCell ⟨p, i * 129 + 128, none⟩ (.bool true)) q p (d.put i b) ∧ Only q (some p) w (w1.setCell ⟨p, i * 129 + 128, none⟩ (.bool true)) := by
  have hok := h.ok.1
  have hs := hok.get i hi
  have e1 := secs_splice hok i 64 (vals b) { d.secs.getD i blank with cached := b } hi (by rw [vals_len, hb.1]; decide) (sec_cached _ b hs hb)
  rw [e1]
  have hok1 : allOk (d.secs.set i { d.secs.getD i blank with cached := b }) := hok.set i ⟨hs.1, hb⟩
  have h1 := h.setRow _ hok1 (by simp)
  have hlen := secsCells_len hok1
  have hlt : i * 129 + 128 < (secsCells (d.secs.set i { d.secs.getD i blank with cached := b })).length := by rw [hlen, List.length_set]; omega
  refine ⟨_, rfl, ?_, frozen_of_row _ p _ _ 86 h1.row, ?_, ?_⟩
  · rw [cell_of_row _ p _ _ 86 (0, 0) h1.row, List.getElem?_toArray, List.getElem?_eq_getElem hlt]
    rfl
  · have e2 := setCell_eq_setRow _ p (i * 129 + 128) _ 86 (0, 0) (.bool true) h1.row
    rw [e2]
    have e3 : (secsCells (d.secs.set i { d.secs.getD i blank with cached := b })).toArray.setIfInBounds (i * 129 + 128) (.bool true) = (secsCells (d.put i b).secs).toArray := by
      have e4 := secs_splice hok1 i 128 [.bool true] { d.secs.getD i blank with cached := b, waits := true } (by simpa using hi) (by simp) (by
        simp only [List.getD_eq_getElem?_getD, List.getElem?_set_self hi, Option.getD_some]
        exact sec_waits _ true ⟨hs.1, hb⟩)
      rw [List.set_set] at e4
      rw [Dk.put, ← e4]
      simp only [splice, List.length_singleton, List.setIfInBounds_toArray, List.singleton_append]
      rw [List.set_eq_take_append_cons_drop, if_pos hlt]
    rw [e3]
    have := h1.setRow (d.put i b).secs (by simpa [Dk.put] using hok.set i (hs.put hb true)) (by simp [Dk.put])
    simpa [Dk.put] using this
  · have e2 := setCell_eq_setRow _ p (i * 129 + 128) _ 86 (0, 0) (.bool true) h1.row
    rw [e2]
    exact (only_setRow w q p _).tr (only_setRow _ q p _)
theorem Row.disk {w w' : World} {q p : Nat} {d : Dk} {a : Option Addr} {l : List Nat} (h : Row w a l) (hd : DiskAt w q p d) (ho : Only q none w w') : Row w' a l := by
  refine ⟨h.1, ?_⟩
  rcases h.2 with h2 | ⟨b, off, ha, hlt, hc⟩
  · exact .inl h2
  · by_cases hl : l = []
    · exact .inl hl
    · have hne : b ≠ q := by
        intro e
        subst e
        obtain ⟨z, h1, _⟩ := hd
        have hp : 0 < l.length := List.length_pos_iff.2 hl
        have h3 := hc 0 hp
        rw [cell_of_row w b _ _ 66 (0, 0) h1] at h3
        rcases off with _ | _ | _ | _ | _ | off <;> simp at h3
      refine .inr ⟨b, off, ha, Nat.lt_of_lt_of_le hlt ho.size, fun i hi => ?_⟩
      have := ho.block b hlt hne (by simp)
      rw [← hc i hi]
      simp only [World.cell?, this]
theorem spent_kept (d : Dk) : d.spent.secs = d.secs := spent_secs d
set_option maxHeartbeats 1000000 in
theorem write_ok {w : World} {q p i : Nat} {d : Dk} (h : DiskAt w q p d) (hdead : d.dead = false) (hi : i < d.secs.length) (hops : d.ops < 1000000000) (hmay : d.may = true) (a : Option Addr) (b : List Nat) (cap : Nat) (hr : Row w a b) (hb : b.length = 64) :
    Calls Try.prog 51 #[.pointer (some ⟨q, 0, none⟩), .int .i64 (i : Int), .slice a 64 cap] w fun e w' => e = .returned (.int .i64 0) ∧ DiskAt w' q p (d.spent.put i b) ∧ Only q (some p) w w' := by
  have HD := hid h
  have HR := hid hr
  have HB : Hid (Bytes b) := ⟨hb, hr.1⟩
  have hlen := h.ok.2
  have hhas : d.has (i : Int) = true := by simp [Dk.has, hi]
  obtain ⟨z, h1, h2, h3, h4, h5⟩ := h
  obtain ⟨c0, c1, c2, c3, c4, cf⟩ := DiskAt.cells h1
  rw [hdead] at c4
  clear h1 h2 h3 h4 h5 hr hdead c0 c1 c2 c3 cf
  go_enter Try.func51, Try.ntmps51
  go_wp2_with fail
  refine (has_any HD.out i).mono ?_
  rintro e w1 ⟨rfl, rfl⟩
  rw [hhas]
  go_wp2_with fail
  refine (spend_any HD.out hops).mono ?_
  rintro e w2 ⟨rfl, hd2, ho2⟩
  rw [hmay]
  clear c4
  have HR2 := hid (HR.out.disk HD.out ho2)
  have HO := hid ho2
  have hi2 : i < d.spent.secs.length := by rw [spent_kept]; exact hi
  obtain ⟨w3, hw3, hc3, hf3, hp3, ho3⟩ := hd2.put i hi2 b HB.out
  obtain ⟨u, hc3⟩ := Option.isSome_iff_exists.1 hc3
  have HW3 := hid hw3
  have HP3 := hid hp3
  have HO3 := hid ho3
  have hrow := hid hd2.row
  have hsz := secsCells_len hd2.ok.1
  obtain ⟨z, h1, h2, h3, h4, h5⟩ := id hd2
  obtain ⟨c0, c1, c2, c3, c4, cf⟩ := DiskAt.cells h1
  rw [spent_kept] at c0 hsz
  have HF : Hid (i * 129 + 64 + b.length ≤ (secsCells d.spent.secs).length) := by show _ ≤ _; rw [spent_kept, hsz, hb]; omega
  clear h1 h2 h3 h4 h5 hd2 c1 c2 c3 c4 cf ho2 hw3 hp3 ho3 hi2 hsz
  have tok : True := trivial
  go_wp2_with (have _t := tok; refine step_copy rfl _ _ rfl p (i * 129 + 64) 64 64 a 64 cap rfl rfl _ 86 hrow.out b (by rw [hb]; rfl) HR2.out HF.out ?_; intro w4 hw4; obtain rfl := hw4.trans HW3.out.symm; clear tok hw4)
  go_ret
  exact ⟨rfl, HP3.out, (HO.out.weak).tr HO3.out⟩
theorem Only.refl' (q : Nat) (o : Option Nat) (w : World) : Only q o w w := Only.refl q o w
set_option maxHeartbeats 1000000 in
theorem write_burnt {w : World} {q p i : Nat} {d : Dk} (h : DiskAt w q p d) (hdead : d.dead = false) (hi : i < d.secs.length) (hops : d.ops < 1000000000) (hmay : d.may = false) (a : Option Addr) (cap : Nat) :
    Calls Try.prog 51 #[.pointer (some ⟨q, 0, none⟩), .int .i64 (i : Int), .slice a 64 cap] w fun e w' => e = .returned (.int .i64 15) ∧ DiskAt w' q p d.spent ∧ Only q none w w' := by
  have HD := hid h
  have hhas : d.has (i : Int) = true := by simp [Dk.has, hi]
  obtain ⟨z, h1, h2, h3, h4, h5⟩ := h
  obtain ⟨c0, c1, c2, c3, c4, cf⟩ := DiskAt.cells h1
  rw [hdead] at c4
  clear h1 h2 h3 h4 h5 hdead c0 c1 c2 c3 cf
  go_enter Try.func51, Try.ntmps51
  go_wp2_with fail
  refine (has_any HD.out i).mono ?_
  rintro e w1 ⟨rfl, rfl⟩
  rw [hhas]
  go_wp2_with fail
  refine (spend_any HD.out hops).mono ?_
  rintro e w2 ⟨rfl, hd2, ho2⟩
  rw [hmay]
  clear c4
  have HO := hid ho2
  have HD2 := hid hd2
  clear ho2 hd2
  go_wp2_with fail
  go_ret
  exact ⟨rfl, HD2.out, HO.out⟩
set_option maxHeartbeats 1000000 in
theorem write_dead {w : World} {q p : Nat} {d : Dk} (h : DiskAt w q p d) (hdead : d.dead = true) (z : Int) (v : Value) :
    Calls Try.prog 51 #[.pointer (some ⟨q, 0, none⟩), .int .i64 z, v] w fun e w' => e = .returned (.int .i64 15) ∧ w' = w := by
  obtain ⟨y, h1, h2, h3, h4, h5⟩ := h
  obtain ⟨c0, c1, c2, c3, c4, cf⟩ := DiskAt.cells h1
  rw [hdead] at c4
  clear h1 h2 h3 h4 h5 hdead c0 c1 c2 c3 cf
  go_enter Try.func51, Try.ntmps51
  go_wp2_with fail
  go_ret
  exact ⟨rfl, rfl⟩
set_option maxHeartbeats 1000000 in
theorem write_arg {w : World} {q p : Nat} {d : Dk} (h : DiskAt w q p d) (hdead : d.dead = false) (z : Int) (a : Option Addr) (n cap : Nat) (hz : d.has z = false ∨ n ≠ 64) :
    Calls Try.prog 51 #[.pointer (some ⟨q, 0, none⟩), .int .i64 z, .slice a n cap] w fun e w' => e = .returned (.int .i64 1) ∧ w' = w := by
  have HD := hid h
  obtain ⟨y, h1, h2, h3, h4, h5⟩ := h
  obtain ⟨c0, c1, c2, c3, c4, cf⟩ := DiskAt.cells h1
  rw [hdead] at c4
  clear h1 h2 h3 h4 h5 hdead c0 c1 c2 c3 cf
  go_enter Try.func51, Try.ntmps51
  go_wp2_with fail
  refine (has_any HD.out z).mono ?_
  rintro e w1 ⟨rfl, rfl⟩
  cases hh : d.has z
  · clear hz
    go_wp2_with fail
    go_ret
    exact ⟨rfl, rfl⟩
  · have t1 : ¬ ((n : Int) = 64) := by rcases hz with h | h; simp [hh] at h; omega
    clear hz
    go_wp2_with fail
    go_ret
    exact ⟨rfl, rfl⟩
/-- What a Write answers, and what becomes of the disk. -/
def Dk.write (d : Dk) (z : Int) (b : List Nat) : Dk × Int :=
  if d.dead then (d, 15) else if d.has z = false ∨ b.length ≠ 64 then (d, 1) else if d.may = false then (d.spent, 15) else (d.spent.put z.toNat b, 0)
theorem write_any {w : World} {q p : Nat} {d : Dk} (h : DiskAt w q p d) (hops : d.ops < 1000000000) (z : Int) (a : Option Addr) (b : List Nat) (n cap : Nat) (hr : Row w a b) (hb : b.length = n) :
    Calls Try.prog 51 #[.pointer (some ⟨q, 0, none⟩), .int .i64 z, .slice a n cap] w fun e w' => e = .returned (.int .i64 (d.write z b).2) ∧ DiskAt w' q p (d.write z b).1 ∧ Only q (some p) w w' := by
  subst hb
  cases hd : d.dead
  · by_cases hz : d.has z = false ∨ b.length ≠ 64
    · refine (write_arg h hd z a b.length cap hz).mono ?_
      rintro e w' ⟨rfl, rfl⟩
      rw [Dk.write, if_neg (by simp [hd]), if_pos hz]
      exact ⟨rfl, h, Only.refl _ _ _⟩
    · have hz1 : d.has z = true := by simpa using (fun e => hz (.inl e) : ¬ d.has z = false)
      have hz2 : b.length = 64 := Decidable.not_not.1 (fun e => hz (.inr e))
      obtain ⟨i, rfl⟩ : ∃ i : Nat, z = (i : Int) := ⟨z.toNat, by simp [Dk.has] at hz1; omega⟩
      have hi : i < d.secs.length := by simp [Dk.has] at hz1; omega
      rw [Dk.write, if_neg (by simp [hd]), if_neg hz, hz2]
      cases hm : d.may
      · rw [if_pos rfl]
        refine (write_burnt h hd hi hops hm a cap).mono ?_
        rintro e w' ⟨rfl, h1, h2⟩
        exact ⟨rfl, h1, h2.weak⟩
      · rw [if_neg (by simp)]
        exact write_ok h hd hi hops hm a b cap hr hz2
  · refine (write_dead h hd z _).mono ?_
    rintro e w' ⟨rfl, rfl⟩
    rw [Dk.write, if_pos hd]
    exact ⟨rfl, h, Only.refl _ _ _⟩
end Go.Proofs.Yteohjfhflodklaa
