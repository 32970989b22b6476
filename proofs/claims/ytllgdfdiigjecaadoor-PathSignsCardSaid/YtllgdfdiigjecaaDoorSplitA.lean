/- The program's Split. Condition: internal/bytealg.MaxLen holds an integer. -/
import Derived.Test.YtllgdfdiigjecaaDoorNameB
namespace Go.Proofs.YtllgdfdiigjecaaDoor
open Go.RowKit
set_option maxRecDepth 4000
def Max (w : World) : Prop := ∃ m, w.cell? ⟨0, 0, none⟩ = some (.int .i64 m)
theorem Max.below {w w' : World} (h : Max w) (hb : Below w.heap.size w w') : Max w' := by
  obtain ⟨m, hm⟩ := h
  have hlt := World.block_lt_of_cell? _ _ hm
  exact ⟨m, (hb.cell (p := ⟨0, 0, none⟩) hlt).trans hm⟩
def SplitOut (w : World) (o : Option (List Str)) (e : Ending) : Prop :=
  match o with
  | none => e = .returned (.tuple #[.slice none 0 0, .int .i64 3])
  | some l => ∃ a c, e = .returned (.tuple #[.slice a l.length c, .int .i64 0]) ∧ l.length ≤ c ∧ Texts w a l
theorem names_any (w : World) (a : Option Addr) (l : List Str) (n c : Nat) (hn : l.length = n) (ht : Texts w a l) (hle : n ≤ 1000000) :
    Calls Tryd.prog 17 #[.slice a n c] w fun e w' => e = .returned (.bool (l.all nameB)) ∧ Below w.heap.size w w' := by
  have HN := hid hn
  have HT := hid ht
  clear hn ht
  go_enter Tryd.func17, Tryd.ntmps17
  go_wp2_with fail
  go_loopg [7] n (fun k v wr => ∃ i : Nat, i ≤ n ∧ k = n - i ∧ v = .int .i64 i ∧ Hid (Below w.heap.size w wr) ∧ Hid (∀ j, j < i → nameB (l.getD j []) = true))
  case atStart => exact ⟨0, by omega, by omega, rfl, hid (Below.refl _ _), hid (fun j hj => by omega)⟩
  case round =>
    obtain ⟨i, hi, rfl, rfl, HB, HO⟩ := hrel
    by_cases hlt : i < n
    · have htr := (HT.out.below HB.out).at_ (by intro e; have := HN.out; rw [e] at this; simp at this; omega)
      obtain ⟨b, off, rfl, hblt, hcell⟩ := htr
      have hc1 := hcell i (by have := HN.out; omega)
      obtain ⟨x, hx⟩ : ∃ x, l.getD i [] = x := ⟨_, rfl⟩
      rw [hx] at hc1
      have HX := hid hx
      clear hcell hblt hx
      go_wp2_with fail
      refine (name_any wr x).mono ?_
      rintro e w2 ⟨rfl, hb2⟩
      have HB2 := hid (HB.out.trans (hb2.mono HB.out.size))
      clear hb2 hc1
      cases hnb : nameB x with
      | false =>
        have HNB := hid hnb
        clear hnb
        go_wp2_with fail
        go_ret
        have hall : l.all nameB = false := by
          rw [List.all_eq_false]
          have hil : i < l.length := by have := HN.out; omega
          refine ⟨l.getD i [], ?_, by rw [HX.out, HNB.out]; simp⟩
          rw [List.getD_eq_getElem?_getD, List.getElem?_eq_getElem hil]
          exact List.getElem_mem hil
        exact ⟨by rw [hall]; rfl, HB2.out⟩
      | true =>
        have HNB := hid hnb
        clear hnb
        go_wp2_with fail
        go_roundg (n - (i + 1))
        case measure => omega
        case rel =>
          refine ⟨i + 1, by omega, by omega, by go_num, HB2, hid (fun j hj => ?_)⟩
          by_cases e : j = i
          · subst e; rw [HX.out]; exact HNB.out
          · exact HO.out j (by omega)
    · have hin : i = n := by omega
      subst hin
      go_wp2_with fail
      go_ret
      have hall : l.all nameB = true := by
        rw [List.all_eq_true]
        intro x hx
        obtain ⟨j, hj, rfl⟩ := List.getElem_of_mem hx
        have := HO.out j (by have := HN.out; omega)
        rwa [List.getD_eq_getElem?_getD, List.getElem?_eq_getElem hj] at this
      exact ⟨by rw [hall]; rfl, HB.out⟩
theorem cut_yes (r : Str) (w : World) : Calls Tryd.prog 15 #[.string (mk (47 :: r)), .string ⟨#[47]⟩] w fun e w' => e = .returned (.tuple #[.string (mk r), .bool true]) ∧ w' = w := by
  refine (strings_CutPrefix (mk (47 :: r)) ⟨#[47]⟩ w).mono fun e w' ⟨h1, h2⟩ => ⟨?_, h2⟩
  rw [h1, mk_list]
  simp [Lib.trimPrefix, Lib.hasPrefix, List.isPrefixOf, mk]
theorem cut_no (s : Str) (hs : ∀ r, s ≠ 47 :: r) (w : World) : Calls Tryd.prog 15 #[.string (mk s), .string ⟨#[47]⟩] w fun e w' => e = .returned (.tuple #[.string (mk s), .bool false]) ∧ w' = w := by
  refine (strings_CutPrefix (mk s) ⟨#[47]⟩ w).mono fun e w' ⟨h1, h2⟩ => ⟨?_, h2⟩
  have hp : Lib.hasPrefix s [47] = false := by
    cases s with
    | nil => rfl
    | cons b r =>
      have : b ≠ 47 := fun e => hs r (by rw [e])
      simp [Lib.hasPrefix, List.isPrefixOf, Ne.symm this]
  rw [h1, mk_list]
  simp [Lib.trimPrefix, hp, mk]
theorem splitS_any (r : Str) (w : World) (hm : Max w) (hl : r.length ≤ 1000) :
    Calls Tryd.prog 16 #[.string (mk r), .string ⟨#[47]⟩] w fun e w' => ∃ a, e = .returned (.slice a (pieces r).length (pieces r).length) ∧ Texts w' a (pieces r) ∧ Below w.heap.size w w' := by
  obtain ⟨m, hm⟩ := hm
  refine (strings_Split (mk r) ⟨#[47]⟩ m w (by rw [mk_size]; omega) hm (by decide)).mono fun e w' ⟨h1, h2⟩ => ?_
  have hc : Lib.countB (mk r) ⟨#[47]⟩ = Lib.count r [47] := by unfold Lib.countB; rw [mk_list]
  have hd := Lib.splitB_data ⟨#[47]⟩ 0 (Lib.count r [47]) (mk r)
  have hs : Lib.splitK [47] 0 (Lib.count r [47]) r = pieces r := split_lib r
  rw [mk_list] at hd
  have hd2 := hd.trans hs
  have hln : (Lib.splitB ⟨#[47]⟩ 0 (Lib.count r [47]) (mk r)).length = Lib.count r [47] + 1 := Lib.splitB_all ⟨#[47]⟩ (by decide) 0 _ _ hc
  have hlp : (pieces r).length = Lib.count r [47] + 1 := by rw [← hd2, List.length_map, hln]
  rw [hc] at h1 h2
  refine ⟨some ⟨w.heap.size, 0, none⟩, by rw [h1, hlp], .inr ⟨w.heap.size, 0, rfl, by rw [h2]; simp, fun i hi => ?_⟩, by rw [h2]; exact (Below.refl _ w).alloc (Nat.le_refl _) _⟩
  rw [h2]
  have hil : i < (Lib.splitB ⟨#[47]⟩ 0 (Lib.count r [47]) (mk r)).length := by rw [hln, ← hlp]; exact hi
  rw [Nat.zero_add, World.cell?_alloc_at _ _ _ _ rfl, List.getElem?_toArray, List.getElem?_map, List.getElem?_eq_getElem hil, Option.map_some]
  have e : (pieces r).getD i [] = ((Lib.splitB ⟨#[47]⟩ 0 (Lib.count r [47]) (mk r))[i]'hil).data.toList := by
    rw [← hd2, List.getD_eq_getElem?_getD, List.getElem?_map, List.getElem?_eq_getElem hil]
    rfl
  rw [e, mk_data]
end Go.Proofs.YtllgdfdiigjecaaDoor
