/- DiskFuses: with a fuse so many writes are done, no more, and what was done ahead stands as it did; for every input. -/
import Derived.Test.YtoniolndoidkcaaGrid
namespace Go.Proofs.Ytoniolndoidkcaa
open Go.ChangeShapes Go.WideShapes Go.ChangeAt Go.RowKit
def fsec (k : Nat) (ls : List (List Nat)) (i j : Nat) : Sec := if j < min i k then ⟨zeros, full (ls.getD j []), true⟩ else blank
def fdk (k : Nat) (ls : List (List Nat)) (i : Nat) : Dk := ⟨(List.range 40).map (fsec k ls i), min i k, some (k - min i k), decide (k < i)⟩
theorem fdk_zero (k : Nat) (ls : List (List Nat)) : (fresh 40).fused (k : Int) = fdk k ls 0 := by
  have e : (List.range 40).map (fsec k ls 0) = List.replicate 40 blank := by
    apply List.ext_getElem?
    intro j
    by_cases hj : j < 40
    · simp only [List.getElem?_map, List.getElem?_range hj, Option.map_some, fsec]
      rw [List.getElem?_replicate, if_pos hj]
      simp
    · rw [List.getElem?_eq_none (by simp; omega), List.getElem?_eq_none (by simp; omega)]
  simp [fdk, Dk.fused, fresh, e]
theorem fdk_len (k : Nat) (ls : List (List Nat)) (i : Nat) : (fdk k ls i).secs.length = 40 := by simp [fdk]
theorem fdk_get (k : Nat) (ls : List (List Nat)) (i j : Nat) (hj : j < 40) : (fdk k ls i).secs.getD j blank = fsec k ls i j := by simp [fdk, hj]
theorem fdk_write (k : Nat) (ls : List (List Nat)) (i : Nat) (hi : i < 40) (hb : (full (ls.getD i [])).length = 64) : (fdk k ls i).write (i : Int) (full (ls.getD i [])) = (fdk k ls (i + 1), if i < k then 0 else 15) := by
  have hh : (fdk k ls i).has (i : Int) = true := by simp [Dk.has, fdk_len]; omega
  by_cases h1 : k < i
  · have hd : (fdk k ls i).dead = true := by simp [fdk, h1]
    have e : fdk k ls (i + 1) = fdk k ls i := by
      have : min (i + 1) k = min i k := by omega
      simp only [fdk, this, decide_eq_true h1, decide_eq_true (show k < i + 1 by omega)]
      congr 1
      apply List.map_congr_left
      intro j _
      simp only [fsec, this]
    rw [Dk.write, if_pos hd, e, if_neg (by omega)]
  · have hd : (fdk k ls i).dead = false := by simp [fdk]; omega
    rw [Dk.write, if_neg (by simp [hd]), if_neg (by simp [hh]; exact hb)]
    by_cases h2 : i = k
    · subst h2
      have hf : (fdk i ls i).fuse = some 0 := by simp [fdk]
      have hm : (fdk i ls i).may = false := by simp [Dk.may, hf]
      rw [if_pos hm, if_neg (by omega)]
      have e : min (i + 1) i = min i i := by omega
      have e2 : (fdk i ls i).spent = { fdk i ls i with dead := true } := by simp [Dk.spent, hf]
      rw [e2]
      simp only [fdk, e, decide_eq_true (show i < i + 1 by omega)]
      congr 2
      apply List.map_congr_left
      intro j _
      simp only [fsec, e]
    · have h3 : i < k := by omega
      obtain ⟨m, hm⟩ : ∃ m, k - i = m + 1 := ⟨k - i - 1, by omega⟩
      have hmin : min i k = i := by omega
      have hmin1 : min (i + 1) k = i + 1 := by omega
      have hf : (fdk k ls i).fuse = some (m + 1) := by simp [fdk, hmin, hm]
      have hmy : (fdk k ls i).may = true := by simp [Dk.may, hf]
      rw [if_neg (by simp [hmy]), if_pos h3]
      have e2 : (fdk k ls i).spent = { fdk k ls i with fuse := some m, ops := (fdk k ls i).ops + 1 } := by simp [Dk.spent, hf]
      rw [e2]
      have hg := fdk_get k ls i i hi
      have hbl : fsec k ls i i = blank := by simp [fsec, hmin]
      have hset : ((List.range 40).map (fsec k ls i)).set i ⟨zeros, full (ls.getD i []), true⟩ = (List.range 40).map (fsec k ls (i + 1)) := by
        apply List.ext_getElem?
        intro j
        by_cases hj : j < 40
        · rw [List.getElem?_set]
          by_cases e : i = j
          · subst e; simp [fsec, hi, hmin1]
          · rw [if_neg e]
            simp only [List.getElem?_map, List.getElem?_range hj, Option.map_some, Option.some.injEq, fsec, hmin, hmin1]
            by_cases h4 : j < i
            · rw [if_pos h4, if_pos (by omega)]
            · rw [if_neg h4, if_neg (by omega)]
        · rw [List.getElem?_eq_none (by simp; omega), List.getElem?_eq_none (by simp; omega)]
      have hg2 : ((List.range 40).map (fsec k ls i)).getD i blank = blank := by have h5 := hg; rw [hbl] at h5; exact h5
      simp only [Dk.put, fdk, hmin, hmin1, Int.toNat_natCast, hg2]
      rw [← hset]
      have : k - (i + 1) = m := by omega
      simp only [this, decide_eq_false (show ¬ k < i by omega), decide_eq_false (show ¬ k < i + 1 by omega)]
      rfl
theorem stay_all (c : Nat) : stay [1] c = 64 := by simp [stay, rep, Nat.mod_one]
theorem mix_all {a b : List Nat} (ha : a.length = 64) (hb : b.length = 64) : mix a b 64 = b := by
  simp [mix, List.take_of_length_le (Nat.le_of_eq hb), List.drop_of_length_le (Nat.le_of_eq ha)]
theorem fdk_crash (k : Nat) (ls : List (List Nat)) (i j : Nat) (hj : j < 40) (hb : (full (ls.getD j [])).length = 64) : ((fdk k ls i).crash [1]).read j = if j < min i k then full (ls.getD j []) else zeros := by
  have e : ((fdk k ls i).crash [1]).secs.getD j blank = crashAt [1] (fdk k ls i).secs j := by
    simp only [Dk.crash, crashL, fdk_len, List.getD_eq_getElem?_getD, List.getElem?_map, List.getElem?_range hj, Option.map_some, Option.getD_some]
  rw [Dk.read, e, crashAt, fdk_get k ls i j hj, crashed, stay_all, fsec]
  by_cases h : j < min i k
  · rw [if_pos h, if_pos h]
    exact mix_all (by simp [zeros]) hb
  · rw [if_neg h, if_neg h]
    rfl
theorem new40 (w : World) : Calls Try.prog 10 #[.int .i64 40] w fun e w' => ∃ q, e = .returned (.tuple #[.pointer (some ⟨q, 0, none⟩), .int .i64 0]) ∧ ∃ p, DiskAt w' q p (fresh 40) ∧ Below w.heap.size w w' ∧ w.heap.size ≤ q ∧ w.heap.size ≤ p := new_any w 40 (by decide)
set_option maxRecDepth 20000 in
set_option maxHeartbeats 4000000 in
theorem diskFuses_walk (w : World) (n : Nat) (hn : n < 256) (a : Option Addr) (N cap : Nat) (ls : List (List Nat)) (hg : Grid w a ls) (hN : ls.length = N) :
    Calls Try.prog 7 #[.int .u8 (n : Int), .slice a N cap] w fun e w' => e = .returned (.bool true) ∧ Below w.heap.size w w' := by
  have HG := hid hg
  have HN := hid hN
  clear hg hN
  go_enter Try.func7, Try.ntmps7
  go_wp2_with fail
  refine (awake_any w).mono ?_
  rintro e w2 ⟨rfl, hb2⟩
  have HBw2 := hid hb2
  clear hb2
  go_wp2_with fail
  refine (new40 w2).mono ?_
  rintro e w3 ⟨q, rfl, p, hd, hb, hq, hp⟩
  have HBw3 := hid (HBw2.out.trans (hb.mono HBw2.out.size))
  have HDw3 := hid hd
  have HQ := hid (Nat.le_trans HBw2.out.size hq)
  have HP := hid (Nat.le_trans HBw2.out.size hp)
  clear hd hb hq hp HBw2
  by_cases h40 : 40 < N
  · have t0 : (40 : Int) < (N : Int) := by omega
    clear h40
    go_wp2_with fail
    go_ret
    exact ⟨rfl, HBw3.out⟩
  have t0 : ¬ (40 : Int) < (N : Int) := by omega
  have htm : Int.tmod (n : Int) 20 = ((n % 20 : Nat) : Int) := by rw [Int.tmod_eq_emod_of_nonneg (by omega)]; simp
  have hmd : (n : Int) % 20 = ((n % 20 : Nat) : Int) := by simp
  have hk20 : n % 20 < 20 := Nat.mod_lt _ (by decide)
  generalize n % 20 = k at *
  go_wp2_with fail
  refine (fuse_any HDw3.out (k : Int) (by omega)).mono ?_
  rintro e w4 ⟨rfl, hd, ho⟩
  rw [fdk_zero k ls] at hd
  have HBw4 := hid (HBw3.out.trans ((ho.weak (o := some p)).low HQ.out HP.out HBw3.out.size))
  have HDw4 := hid hd
  clear hd ho HBw3 HDw3
  go_wp2_with fail
  go_loopg [8, 9, 10] N (fun t v8 v9 v10 wr => ∃ i : Nat, i + t = N ∧ v9 = .int .i64 (i : Int) ∧ v8 = .int .i64 ((min i k : Nat) : Int) ∧ DiskAt wr q p (fdk k ls i) ∧ Below w.heap.size w wr ∧ ∀ j, j < i → (ls.getD j []).length ≤ 100)
  case atStart => exact ⟨0, by omega, rfl, by simp, HDw4.out, HBw4.out, by omega⟩
  case round =>
    obtain ⟨i, hk, rfl, rfl, hd, hb, hlen⟩ := hrel
    have HBi := hid hb
    have HDi := hid hd
    have HLN := hid hlen
    by_cases h1 : i < N
    · have hi : (i : Int) < (N : Int) := by omega
      obtain ⟨b0, o0, rfl, hc⟩ := (HG.out.below hb).at_ (by intro e; rw [← HN.out, e] at h1; simp at h1)
      obtain ⟨ai, ci, hci, hri⟩ := hc i (by rw [HN.out]; exact h1)
      have HRi := hid hri
      have HFi := hid (bytes_full hri.1)
      generalize hni : (ls.getD i []).length = ni at *
      clear hd hb hlen hc hri
      by_cases h100 : 100 < ni
      · have t1 : (100 : Int) < (ni : Int) := by omega
        clear h100
        go_wp2_with fail
        go_ret
        exact ⟨rfl, HBi.out⟩
      have t1 : ¬ (100 : Int) < (ni : Int) := by omega
      go_wp2_with fail
      refine (full_any wr ai (ls.getD i []) ni ci HRi.out hni (by omega)).mono ?_
      rintro e w5 ⟨g, rfl, hg, hb, -⟩
      have HBw5 := hid (HBi.out.trans (hb.mono HBi.out.size))
      have HDw5 := hid (HDi.out.below hb)
      have HG5 := hid hg
      clear hg hb hci
      go_wp2_with fail
      refine (write_any HDw5.out (show (fdk k ls i).ops < 1000000000 by simp only [fdk]; omega) (i : Int) _ (full (ls.getD i [])) 64 64 HG5.out.row HFi.out.1).mono ?_
      rintro e w6 ⟨rfl, hd, ho⟩
      rw [fdk_write k ls i (by omega) HFi.out.1] at hd ⊢
      have HBw6 := hid (HBw5.out.trans (ho.low HQ.out HP.out HBw5.out.size))
      have HDw6 := hid hd
      have HDD : Hid ((fdk k ls (i + 1)).dead = decide (k < i + 1)) := rfl
      have HOO : Hid ((fdk k ls (i + 1)).ops = min (i + 1) k) := rfl
      clear hd ho HBw5 HDw5 HG5
      by_cases hik : i < k
      · have hmi : min i k = i := by omega
        have hmi1 : min (i + 1) k = i + 1 := by omega
        rw [if_pos hik, hmi]
        have hiki : (i : Int) < (k : Int) := by omega
        have e1 : (fdk k ls (i + 1)).dead = false := by rw [HDD.out]; exact decide_eq_false (by omega)
        have e2 : (((fdk k ls (i + 1)).ops : Nat) : Int) = (i : Int) + 1 := by rw [HOO.out, hmi1]; rfl
        have E1 := hid e1
        have E2 := hid e2
        have HM1 := hid hmi1
        clear hmi hmi1 e1 e2
        go_wp2_with fail
        refine (dead_any HDw6.out).mono ?_
        rintro e w7 ⟨rfl, rfl⟩
        rw [E1.out]
        go_wp2_with fail
        refine (ops_any HDw6.out).mono ?_
        rintro e w8 ⟨rfl, rfl⟩
        rw [E2.out]
        go_wp2_with fail
        go_roundg (gk - 1)
        case measure => omega
        case rel =>
          refine ⟨i + 1, by omega, by go_num, by rw [HM1.out]; go_num, HDw6.out, HBw6.out, fun j hj => ?_⟩
          rcases Nat.lt_succ_iff_lt_or_eq.1 hj with h | rfl
          · exact HLN.out j h
          · omega
      · have hmi : min i k = k := by omega
        have hmi1 : min (i + 1) k = k := by omega
        rw [if_neg hik, hmi]
        have e1 : (fdk k ls (i + 1)).dead = true := by rw [HDD.out]; exact decide_eq_true (by omega)
        have e2 : (((fdk k ls (i + 1)).ops : Nat) : Int) = (k : Int) := by rw [HOO.out, hmi1]
        have E1 := hid e1
        have E2 := hid e2
        have HM1 := hid hmi1
        have HIK := hid hik
        clear hmi hmi1 e1 e2 hik
        go_wp2_with fail
        refine (dead_any HDw6.out).mono ?_
        rintro e w7 ⟨rfl, rfl⟩
        rw [E1.out]
        go_wp2_with fail
        refine (ops_any HDw6.out).mono ?_
        rintro e w8 ⟨rfl, rfl⟩
        rw [E2.out]
        go_wp2_with fail
        go_roundg (gk - 1)
        case measure => omega
        case rel =>
          refine ⟨i + 1, by omega, by go_num, by rw [HM1.out], HDw6.out, HBw6.out, fun j hj => ?_⟩
          rcases Nat.lt_succ_iff_lt_or_eq.1 hj with h | rfl
          · exact HLN.out j h
          · omega
    · obtain rfl : i = N := by omega
      clear hd hb hlen h1
      go_wp2_with fail
      refine (crash_one HDi.out 1 (by decide)).mono ?_
      rintro e w5 ⟨x, rfl, xp, hx, hb, hxq, hxp⟩
      have HBw5 := hid (HBi.out.trans (hb.mono HBi.out.size))
      have HXw5 := hid hx
      have HXQ := hid (Nat.le_trans HBi.out.size hxq)
      have HXP := hid (Nat.le_trans HBi.out.size hxp)
      clear hx hb hxq hxp HDi HBi
      go_wp2_with fail
      go_loopg [12, 13, 14, 15] i (fun t v12 v13 v14 v15 wq => ∃ j : Nat, j + t = i ∧ v12 = .int .i64 (j : Int) ∧ DiskAt wq x xp ((fdk k ls i).crash [1]) ∧ Below w.heap.size w wq)
      case atStart => exact ⟨0, by omega, rfl, HXw5.out, HBw5.out⟩
      case round =>
        obtain ⟨j, hj, rfl, hx, hb⟩ := hrel
        have HBj := hid hb
        have HXj := hid hx
        by_cases h2 : j < i
        · have hji : (j : Int) < (i : Int) := by omega
          obtain ⟨b0, o0, rfl, hc⟩ := (HG.out.below hb).at_ (by intro e; rw [← HN.out, e] at h2; simp at h2)
          obtain ⟨ai, ci, hci, hri⟩ := hc j (by rw [HN.out]; exact h2)
          have HRj := hid hri
          have HFj := hid (bytes_full hri.1)
          have HCj := hid hc
          have HLj := hid (HLN.out j h2)
          have hrd := fdk_crash k ls i j (by omega) HFj.out.1
          have HCI := hid hci
          generalize hnj : (ls.getD j []).length = nj at *
          have HNJ := hid hnj
          clear hx hb hc hri hci hnj
          go_wp2_with fail
          refine (read_ok (i := j) HXj.out rfl (by simp [Dk.crash, crashL, fdk_len]; omega)).mono ?_
          rintro e w6 ⟨g6, rfl, hg, hb6, -⟩
          have HBw6 := hid (HBj.out.trans (hb6.mono HBj.out.size))
          have HXw6 := hid (HXj.out.below hb6)
          have HB6 := hid hb6
          rw [hrd] at hg
          have HG6 := hid hg
          clear hg hb6 hrd
          go_wp2_with fail
          refine (full_any w6 none [] 0 0 (row_nil _ _) rfl (by decide)).mono ?_
          rintro e w7 ⟨g7, rfl, hg, hb7, -⟩
          have HBw7 := hid (HBw6.out.trans (hb7.mono HBw6.out.size))
          have HXw7 := hid (HXw6.out.below hb7)
          have HG67 := hid (HG6.out.below hb7)
          have HB67 := hid (HB6.out.trans (hb7.mono HB6.out.size))
          have HG7 := hid hg
          clear hg hb7
          by_cases h3 : j < min i k
          · have h3i : (j : Int) < ((min i k : Nat) : Int) := by omega
            rw [if_pos h3] at HG67
            have hcw7 := (HB67.out.cell (p := ⟨b0, o0 + j, none⟩) (by have := World.block_lt_of_cell? _ _ HCI.out; exact this)).trans HCI.out
            generalize min i k = mk at *
            clear h3
            go_wp2_with fail
            refine (full_any w7 ai (ls.getD j []) nj ci (HRj.out.below HB67.out) HNJ.out (by have := HLj.out; omega)).mono ?_
            rintro e w8 ⟨g8, rfl, hg, hb8, -⟩
            have HBw8 := hid (HBw7.out.trans (hb8.mono HBw7.out.size))
            have HXw8 := hid (HXw7.out.below hb8)
            have hs1 := str_all (HG67.out.below hb8) 64 64 HFj.out.1 w8 (Below.refl _ _)
            have hs2 := str_all hg 64 64 HFj.out.1 w8 (Below.refl _ _)
            generalize strOf (full (ls.getD j [])) = SS at hs1 hs2
            clear hg hb8 hcw7
            go_wp2_with fail
            go_roundg (gk - 1)
            case measure => omega
            case rel => exact ⟨j + 1, by omega, by go_num, HXw8.out, HBw8.out⟩
          · have h3i : ¬ (j : Int) < ((min i k : Nat) : Int) := by omega
            rw [if_neg h3] at HG67
            rw [full_nil] at HG7
            have hs1 := str_all HG67.out 64 64 bytes_zeros.1 w7 (Below.refl _ _)
            have hs2 := str_all HG7.out 64 64 bytes_zeros.1 w7 (Below.refl _ _)
            generalize strOf zeros = SS at hs1 hs2
            generalize min i k = mk at *
            clear h3
            go_wp2_with fail
            go_roundg (gk - 1)
            case measure => omega
            case rel => exact ⟨j + 1, by omega, by go_num, HXw7.out, HBw7.out⟩
        · obtain rfl : j = i := by omega
          clear hx hb h2
          go_wp2_with fail
          refine (flush_any HXj.out (by simp [Dk.crash])).mono ?_
          rintro e w6 ⟨rfl, hd, ho⟩
          have HBw6 := hid (HBj.out.trans (ho.low HXQ.out HXP.out HBj.out.size))
          rw [flush_free rfl rfl] at hd ⊢
          have HDw6 := hid hd
          clear hd ho
          go_wp2_with fail
          refine (dead_any HDw6.out).mono ?_
          rintro e w7 ⟨rfl, rfl⟩
          have hdd : ((fdk k ls j).crash [1]).dead = false := rfl
          simp only [hdd]
          go_wp2_with fail
          go_ret
          exact ⟨rfl, HBw6.out⟩
set_option linter.unusedVariables false
set_option maxRecDepth 100000 in
theorem diskFuses_lifted (os : Os) (started : os.Started) (H : Type) (enc : TypeId × Value → H) :
    ReturnsInHanded {} Try.checked os 7 .any (Rows.diskFusesSpec.pre6 enc Try.prog Try.f7 Rows.diskFusesRow.domain false) (Rows.diskFusesSpec.post enc Try.prog Try.f7 false true false false) := by
  refine returnsInHanded_of_change (C := Try.checked) own started (by kernel_rfl) Try.func7
    (ChangeSpec.witness6 (enc := enc) (C := Try.checked) false ⟨#[], #[.int .u8 0, .slice none 0 0], []⟩ 8 (by kernel_rfl) (by kernel_rfl) (by kernel_rfl) (by kernel_rfl)) ?_
  intro W base args ds gs before hval0 hW hcnd _
  have hval : ∀ (j : Nat) t v, Try.f7.params[j]? = some t → args[j]? = some v → Value.okWide Try.prog W .any base t v := hval0
  have hW' := hW
  obtain ⟨p, q, hA0, hV, rfl, hfz, hnd⟩ := hW
  have hA : DataW.TrodAll enc Try.prog W 0 (fun _ => true) true Try.f7.params.toList args.toList ds p := hA0
  rw [Try.params7] at hA hval
  obtain ⟨v0, vs0, d0, ds0, p0, q0, hargs, rfl, rfl, h0, r0⟩ := trodAll_cons hA
  obtain ⟨v1, vs1, d1, ds1, p1, q1, rfl, rfl, rfl, h1, r1⟩ := trodAll_cons r0
  obtain ⟨rfl, rfl, rfl⟩ := trodAll_nil r1
  obtain rfl : args = #[v0, v1] := by cases args; simp_all
  obtain ⟨rfl, rfl⟩ := trodVars_none hV
  obtain ⟨a0, rfl, rfl, rfl, w0⟩ := open_int Try.underlying5 (hval 0 5 v0 rfl rfl) h0
  obtain ⟨a1, len1, cap1, rfl⟩ := okWide_slice Try.underlying44 (hval 1 44 v1 rfl rfl)
  have k1 := h1
  have lt1 : ∀ x ∈ p1, x.block < W.heap.size := by obtain ⟨m, hm⟩ := k1; exact DataW.trod_lt m _ _ _ hm
  obtain ⟨ls, hls, hgrid⟩ : ∃ ls : List (List Nat), ls.length = len1 ∧ Grid W a1 ls := by
    obtain ⟨fuel, hf⟩ := h1
    exact grid_of hf
  obtain ⟨n, rfl, hn⟩ : ∃ n : Nat, a0 = (n : Int) ∧ n < 256 := ⟨a0.toNat, by have := nat_u8 w0; omega, by have := nat_u8 w0; omega⟩
  clear hA0 hval0
  refine (diskFuses_walk W n hn a1 len1 cap1 ls hgrid hls).mono fun e W' ⟨he, bel⟩ => ?_
  subst he
  exact ⟨_, rfl, _, _, _, [], _, [], hW', trodAll_mk1 (shut_bool Try.underlying4 _), (trodAll_cons_mk (shut_int Try.underlying5 w0) (trodAll_cons_mk (Below.trod laidOut (by kernel_rfl) (of_decide_eq_true (by kernel_rfl)) k1 bel lt1) trodAll_mk0)), rfl, bel.frame _, fun h => by cases h⟩

theorem diskFuses_over : Rows.diskFusesRow.holds Try.pinned (OpenSpec.ofChange Rows.diskFusesSpec) :=
  OpenClaim.holds_of_wide 7 Try.f7 rfl rfl rfl rfl rfl rfl rfl ⟨rfl, rfl, rfl, rfl, rfl⟩ rfl rfl rfl rfl rfl (by kernel_rfl) Try.func7 (by kernel_rfl)
    (of_decide_eq_true (by kernel_rfl)) (by unfold Func.isWrapper; first | (rw [if_pos (by decide +kernel)]; kernel_rfl) | (rw [if_neg (by decide +kernel)]; exact ⟨rfl, rfl⟩))
    (fun os started H enc _ => diskFuses_lifted os started H enc)
theorem diskFuses_holds : Rows.DiskFusesSaid := diskFuses_over
#print axioms diskFuses_holds
end Go.Proofs.Ytoniolndoidkcaa
