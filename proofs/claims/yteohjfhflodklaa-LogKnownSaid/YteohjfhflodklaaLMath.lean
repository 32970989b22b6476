/- Logs as plain mathematics: a sector's bytes, what a scan finds, that what was laid is found. No condition but the sizes named. -/
import Derived.Test.YteohjfhflodklaaFMath
namespace Go.Proofs.Yteohjfhflodklaa
open Go.RowKit Pen
open Crc (four nx run)
/-! ### One sector -/
def two (n : Nat) : List Nat := [n % 256, n / 256 % 256]
def pad (p : List Nat) : List Nat := p ++ List.replicate (54 - p.length) 0
def sect (b n : Nat) (p : List Nat) : List Nat := four b ++ (two n ++ (pad p ++ four b))
def mid (s : List Nat) : List Nat := (s.drop 6).take 54
def sb (s : List Nat) (n : Nat) : Int := if s.take 4 = s.drop 60 ∧ (s.drop 4).take 2 = two n then (le (s.take 4) : Int) else -1
def cnt (n : Nat) : Nat := (n + 53) / 54
theorem pad_len (p : List Nat) (h : p.length ≤ 54) : (pad p).length = 54 := by simp [pad]; omega
theorem sect_len (b n : Nat) (p : List Nat) (h : p.length ≤ 54) : (sect b n p).length = 64 := by simp [sect, four_len, two, pad_len p h]
theorem sect_head (b n : Nat) (p : List Nat) : (sect b n p).take 4 = four b := List.take_left' (four_len _)
theorem sect_place (b n : Nat) (p : List Nat) : ((sect b n p).drop 4).take 2 = two n := by
  rw [sect, List.drop_left' (four_len _)]
  exact List.take_left' rfl
theorem sect_mid (b n : Nat) (p : List Nat) (h : p.length ≤ 54) : mid (sect b n p) = pad p := by
  have e : sect b n p = (four b ++ two n) ++ (pad p ++ four b) := by simp only [sect, List.append_assoc]
  rw [mid, e, List.drop_left' (by simp [four_len, two])]
  exact List.take_left' (pad_len p h)
theorem sect_tail (b n : Nat) (p : List Nat) (h : p.length ≤ 54) : (sect b n p).drop 60 = four b := by
  have e : sect b n p = (four b ++ (two n ++ pad p)) ++ four b := by simp only [sect, List.append_assoc]
  rw [e]
  exact List.drop_left' (by simp [four_len, two, pad_len p h])
theorem sb_sect (b n : Nat) (p : List Nat) (h : p.length ≤ 54) (hb : b < 4294967296) : sb (sect b n p) n = (b : Int) := by
  rw [sb, sect_head, sect_tail b n p h, sect_place, if_pos ⟨rfl, rfl⟩, le_four hb]
theorem two_lt (n : Nat) : ∀ x ∈ two n, x < 256 := by
  intro x hx
  simp only [two, List.mem_cons, List.not_mem_nil, or_false] at hx
  rcases hx with rfl | rfl <;> exact Nat.mod_lt _ (by decide)
theorem sect_lt (b n : Nat) (p : List Nat) (hb : b < 4294967296) (hp : ∀ x ∈ p, x < 256) : ∀ x ∈ sect b n p, x < 256 := by
  intro x hx
  simp only [sect, pad, List.mem_append, List.mem_replicate] at hx
  rcases hx with h | h | (h | h) | h
  · exact Crc.four_lt hb x h
  · exact two_lt n x h
  · exact hp x h
  · omega
  · exact Crc.four_lt hb x h
theorem mid_len {s : List Nat} (h : s.length = 64) : (mid s).length = 54 := by simp [mid, h]
theorem mid_lt {s : List Nat} (h : ∀ x ∈ s, x < 256) : ∀ x ∈ mid s, x < 256 := fun x hx => h x (List.mem_of_mem_drop (List.mem_of_mem_take hx))
/-- A boot that is found is that of four bytes. -/
theorem sb_ge (s : List Nat) (n : Nat) : -1 ≤ sb s n := by unfold sb; split <;> omega

/-! ### A frame on sectors -/
def prt (f : List Nat) (i : Nat) : List Nat := (f.drop (54 * i)).take 54
theorem prt_len (f : List Nat) (i : Nat) : (prt f i).length ≤ 54 := by simp [prt]; omega
theorem prt_succ (f : List Nat) (i : Nat) : prt f (i + 1) = prt (f.drop 54) i := by
  unfold prt
  rw [List.drop_drop, show 54 + 54 * i = 54 * (i + 1) by omega]
theorem prt_lt {f : List Nat} (h : ∀ x ∈ f, x < 256) (i : Nat) : ∀ x ∈ prt f i, x < 256 := fun x hx => h x (List.mem_of_mem_drop (List.mem_of_mem_take hx))
def secsOf (n b : Nat) (f : List Nat) : List (List Nat) := (List.range (cnt f.length)).map fun i => sect b (n + i) (prt f i)
theorem secsOf_len (n b : Nat) (f : List Nat) : (secsOf n b f).length = cnt f.length := by simp [secsOf]
theorem secsOf_get (n b : Nat) (f : List Nat) (i : Nat) (h : i < cnt f.length) : (secsOf n b f).getD i [] = sect b (n + i) (prt f i) := by simp [secsOf, h]
theorem flat_parts : ∀ (c : Nat) (f : List Nat), f.length ≤ 54 * c → (0 < c → 54 * (c - 1) < f.length) → ((List.range c).map fun i => pad (prt f i)).flatten = f ++ List.replicate (54 * c - f.length) 0
  | 0, f, h, _ => by
    have : f = [] := List.length_eq_zero_iff.1 (by omega)
    subst this
    simp
  | c + 1, f, h, h0 => by
    rw [List.range_succ_eq_map, List.map_cons, List.flatten_cons, List.map_map]
    have e : ((fun i => pad (prt f i)) ∘ Nat.succ) = fun i => pad (prt (f.drop 54) i) := by
      funext i
      simp only [Function.comp, Nat.succ_eq_add_one, prt_succ]
    rw [e]
    have h0' := h0 (by omega)
    by_cases hc : c = 0
    · subst hc
      have hf : prt f 0 = f := by rw [prt, Nat.mul_zero, List.drop_zero, List.take_of_length_le (by omega)]
      rw [hf]
      simp [pad]
    · rw [flat_parts c (f.drop 54) (by simp; omega) (fun _ => by simp; omega)]
      have hl : 54 < f.length := by
        have : 54 * 1 ≤ 54 * c := Nat.mul_le_mul_left _ (by omega)
        have e2 : c + 1 - 1 = c := by omega
        rw [e2] at h0'
        omega
      have hp : pad (prt f 0) = f.take 54 := by rw [pad, prt, Nat.mul_zero, List.drop_zero, List.length_take, Nat.min_eq_left (by omega), Nat.sub_self, List.replicate_zero, List.append_nil]
      rw [hp, ← List.append_assoc, List.take_append_drop]
      congr 2
      simp
      omega
/-! ### What a scan sees: D is the bytes at each place -/
def txt (D : Nat → List Nat) (n m : Nat) : List Nat := ((List.range m).map fun i => mid (D (n + i))).flatten
theorem txt_zero (D : Nat → List Nat) (n : Nat) : txt D n 0 = [] := rfl
theorem txt_add (D : Nat → List Nat) (n a b : Nat) : txt D n (a + b) = txt D n a ++ txt D (n + a) b := by
  unfold txt
  rw [List.range_add, List.map_append, List.flatten_append, List.map_map]
  congr 2
  apply List.map_congr_left
  intro i _
  simp [Nat.add_assoc]
theorem txt_succ (D : Nat → List Nat) (n m : Nat) : txt D n (m + 1) = txt D n m ++ mid (D (n + m)) := by
  rw [txt_add]
  simp [txt]
theorem txt_len {D : Nat → List Nat} {n : Nat} : ∀ {m : Nat}, (∀ i, i < m → (D (n + i)).length = 64) → (txt D n m).length = 54 * m
  | 0, _ => rfl
  | m + 1, h => by
    rw [txt_succ, List.length_append, txt_len (fun i hi => h i (by omega)), mid_len (h m (by omega))]
    omega
theorem txt_lt {D : Nat → List Nat} {n m : Nat} (h : ∀ i, i < m → ∀ x ∈ D (n + i), x < 256) : ∀ x ∈ txt D n m, x < 256 := by
  intro x hx
  simp only [txt, List.mem_flatten, List.mem_map, List.mem_range] at hx
  obtain ⟨l, ⟨i, hi, rfl⟩, hx⟩ := hx
  exact mid_lt (h i hi) x hx
theorem txt_drop {D : Nat → List Nat} {n m c : Nat} (hc : c ≤ m) (h : ∀ i, i < m → (D (n + i)).length = 64) : (txt D n m).drop (54 * c) = txt D (n + c) (m - c) := by
  obtain ⟨k, rfl⟩ : ∃ k, m = c + k := ⟨m - c, by omega⟩
  rw [txt_add, List.drop_left' (txt_len fun i hi => h i (by omega)), Nat.add_sub_cancel_left]
theorem txt_take {D : Nat → List Nat} {n m c : Nat} (hc : c ≤ m) (h : ∀ i, i < m → (D (n + i)).length = 64) : (txt D n m).take (54 * c) = txt D n c := by
  obtain ⟨k, rfl⟩ : ∃ k, m = c + k := ⟨m - c, by omega⟩
  rw [txt_add, List.take_left' (txt_len fun i hi => h i (by omega))]
theorem txt_same {D E : Nat → List Nat} {n m : Nat} (h : ∀ i, i < m → D (n + i) = E (n + i)) : txt D n m = txt E n m := by
  unfold txt
  congr 1
  apply List.map_congr_left
  intro i hi
  rw [h i (by simpa using hi)]
/-! ### A scan -/
/-- Is what begins at n a record r of boot b, of its sectors, with noughts behind it? -/
def Whole (D : Nat → List Nat) (n m : Nat) (r : List Nat) (b : Nat) : Prop :=
  (∀ i, i < cnt (r.length + 16) → sb (D (n + i)) (n + i) = (b : Int)) ∧ ∀ j, j < 54 * cnt (r.length + 16) → r.length + 16 ≤ j → (txt D n m).getD j 0 = 0
def wholeB (D : Nat → List Nat) (n m : Nat) (r : List Nat) (b : Nat) : Bool :=
  (List.range (cnt (r.length + 16))).all (fun i => decide (sb (D (n + i)) (n + i) = (b : Int))) && (List.range (54 * cnt (r.length + 16))).all (fun j => decide (j < r.length + 16) || decide ((txt D n m).getD j 0 = 0))
theorem wholeB_iff {D : Nat → List Nat} {n m : Nat} {r : List Nat} {b : Nat} : wholeB D n m r b = true ↔ Whole D n m r b := by
  unfold wholeB Whole
  rw [Bool.and_eq_true, List.all_eq_true, List.all_eq_true]
  constructor
  · rintro ⟨h1, h2⟩
    refine ⟨fun i hi => of_decide_eq_true (h1 i (List.mem_range.2 hi)), fun j hj hl => ?_⟩
    have := h2 j (List.mem_range.2 hj)
    rw [Bool.or_eq_true] at this
    rcases this with h | h
    · have := of_decide_eq_true h; omega
    · exact of_decide_eq_true h
  · rintro ⟨h1, h2⟩
    refine ⟨fun i hi => decide_eq_true (h1 i (List.mem_range.1 hi)), fun j hj => ?_⟩
    rw [Bool.or_eq_true]
    by_cases hl : j < r.length + 16
    · exact .inl (decide_eq_true hl)
    · exact .inr (decide_eq_true (h2 j (List.mem_range.1 hj) (by omega)))
def scan (fits : Nat → Nat → Bool) (D : Nat → List Nat) : Nat → Nat → Nat → Nat → Nat → List (Nat × List Nat)
  | 0, _, _, _, _ => []
  | k + 1, last, lb, n, m => match rd last (txt D n m) with
    | none => []
    | some (r, b) => if (fits lb b && wholeB D n m r b) = true then (b, r) :: scan fits D k (nx last r) b (n + cnt (r.length + 16)) (m - cnt (r.length + 16)) else []
theorem scan_none {fits : Nat → Nat → Bool} {D : Nat → List Nat} {last lb n m : Nat} (k : Nat) (h : rd last (txt D n m) = none) : scan fits D k last lb n m = [] := by
  cases k with
  | zero => rfl
  | succ k => simp only [scan, h]
theorem scan_no {fits : Nat → Nat → Bool} {D : Nat → List Nat} {last lb n m : Nat} (k : Nat) {r : List Nat} {b : Nat} (h : rd last (txt D n m) = some (r, b)) (hn : ¬ (fits lb b = true ∧ Whole D n m r b)) : scan fits D k last lb n m = [] := by
  cases k with
  | zero => rfl
  | succ k =>
    have hn2 : ¬ (fits lb b && wholeB D n m r b) = true := fun e => by
      rw [Bool.and_eq_true] at e
      exact hn ⟨e.1, wholeB_iff.1 e.2⟩
    simp only [scan, h, if_neg hn2]
theorem scan_yes {fits : Nat → Nat → Bool} {D : Nat → List Nat} {last lb n m : Nat} (k : Nat) {r : List Nat} {b : Nat} (h : rd last (txt D n m) = some (r, b)) (hf : fits lb b = true) (hw : Whole D n m r b) : scan fits D (k + 1) last lb n m = (b, r) :: scan fits D k (nx last r) b (n + cnt (r.length + 16)) (m - cnt (r.length + 16)) := by
  have hy : (fits lb b && wholeB D n m r b) = true := by rw [Bool.and_eq_true]; exact ⟨hf, wholeB_iff.2 hw⟩
  simp only [scan, h, if_pos hy]
def lenOf (rs : List (Nat × List Nat)) : Nat := (rs.map fun x => cnt (x.2.length + 16)).sum
def lastOf (last : Nat) (rs : List (Nat × List Nat)) : Nat := rs.foldl (fun l x => nx l x.2) last
def bootOf (lb : Nat) (rs : List (Nat × List Nat)) : Nat := rs.foldl (fun _ x => x.1) lb
theorem lenOf_nil : lenOf [] = 0 := rfl
theorem lenOf_cons (x : Nat × List Nat) (rs : List (Nat × List Nat)) : lenOf (x :: rs) = cnt (x.2.length + 16) + lenOf rs := by simp [lenOf]
theorem lenOf_app (a b : List (Nat × List Nat)) : lenOf (a ++ b) = lenOf a + lenOf b := by simp [lenOf]
theorem lenOf_one (x : Nat × List Nat) : lenOf [x] = cnt (x.2.length + 16) := by simp [lenOf]
theorem lastOf_app (last : Nat) (a b : List (Nat × List Nat)) : lastOf last (a ++ b) = lastOf (lastOf last a) b := by simp [lastOf]
theorem bootOf_app (lb : Nat) (a b : List (Nat × List Nat)) : bootOf lb (a ++ b) = bootOf (bootOf lb a) b := by simp [bootOf]
theorem cnt_pos (n : Nat) : 0 < cnt (n + 16) := by unfold cnt; omega
theorem len_le (rs : List (Nat × List Nat)) : rs.length ≤ lenOf rs := by
  induction rs with
  | nil => exact Nat.le_refl _
  | cons x rs ih => rw [lenOf_cons, List.length_cons]; have := cnt_pos x.2.length; omega
theorem lastOf_lt (last : Nat) (h : last < 4294967296) (rs : List (Nat × List Nat)) : lastOf last rs < 4294967296 := by
  induction rs generalizing last with
  | nil => exact h
  | cons x rs ih => exact ih _ (Crc.nx_lt _ _)
/-! ### What was laid -/
def lay (n last : Nat) : List (Nat × List Nat) → List (List Nat)
  | [] => []
  | (b, r) :: rs => secsOf n b (mk last b r) ++ lay (n + cnt (r.length + 16)) (nx last r) rs
def Ok (x : Nat × List Nat) : Prop := x.1 < 2147483648 ∧ 1 ≤ x.2.length ∧ x.2.length ≤ 16384 ∧ ∀ y ∈ x.2, y < 256
theorem lay_len (n last : Nat) (rs : List (Nat × List Nat)) : (lay n last rs).length = lenOf rs := by
  induction rs generalizing n last with
  | nil => rfl
  | cons x rs ih =>
    obtain ⟨b, r⟩ := x
    rw [lay, List.length_append, ih, secsOf_len, mk_len, lenOf_cons]
theorem lay_app (n last : Nat) (a b : List (Nat × List Nat)) : lay n last (a ++ b) = lay n last a ++ lay (n + lenOf a) (lastOf last a) b := by
  induction a generalizing n last with
  | nil => simp [lay, lenOf, lastOf]
  | cons x a ih =>
    obtain ⟨c, r⟩ := x
    rw [List.cons_append, lay, ih, lay, List.append_assoc, lenOf_cons, Nat.add_assoc]
    rfl
/-- From n on lie these sectors. -/
def At (D : Nat → List Nat) (n : Nat) (L : List (List Nat)) : Prop := ∀ i, i < L.length → D (n + i) = L.getD i []
theorem At.left {D : Nat → List Nat} {n : Nat} {L M : List (List Nat)} (h : At D n (L ++ M)) : At D n L := fun i hi => by
  rw [h i (by simp; omega)]
  simp [List.getElem?_append_left hi]
theorem At.right {D : Nat → List Nat} {n : Nat} {L M : List (List Nat)} (h : At D n (L ++ M)) : At D (n + L.length) M := fun i hi => by
  rw [Nat.add_assoc, h (L.length + i) (by simp; omega)]
  simp [List.getElem?_append_right]
theorem at_app {D : Nat → List Nat} {n : Nat} {L M : List (List Nat)} (h : At D n L) (h2 : At D (n + L.length) M) : At D n (L ++ M) := fun i hi => by
  by_cases hl : i < L.length
  · rw [h i hl]; simp [List.getElem?_append_left hl]
  · have := h2 (i - L.length) (by simp at hi; omega)
    rw [Nat.add_assoc, show L.length + (i - L.length) = i by omega] at this
    rw [this]
    simp [List.getElem?_append_right (show L.length ≤ i by omega)]
theorem At.same {D E : Nat → List Nat} {n : Nat} {L : List (List Nat)} (h : At D n L) (e : ∀ i, i < L.length → E (n + i) = D (n + i)) : At E n L := fun i hi => (e i hi).trans (h i hi)
theorem at_txt {D : Nat → List Nat} {n b : Nat} {f : List Nat} (h : At D n (secsOf n b f)) : txt D n (cnt f.length) = f ++ List.replicate (54 * cnt f.length - f.length) 0 := by
  rw [← flat_parts (cnt f.length) f (by unfold cnt; omega) (by unfold cnt; omega), txt]
  congr 1
  apply List.map_congr_left
  intro i hi
  have hi' : i < cnt f.length := by simpa using hi
  rw [h i (by rw [secsOf_len]; exact hi'), secsOf_get n b f i hi', sect_mid _ _ _ (prt_len f i)]
/-- What was laid there is whole. -/
theorem whole_of {D : Nat → List Nat} {n m last b : Nat} {r : List Nat} (hr : Ok (b, r)) (h : At D n (secsOf n b (mk last b r))) (hm : cnt (r.length + 16) ≤ m) : rd last (txt D n m) = some (r, b) ∧ Whole D n m r b := by
  obtain ⟨h1, h2, h3, h4⟩ := hr
  have ht := at_txt h
  rw [mk_len] at ht
  obtain ⟨k, rfl⟩ : ∃ k, m = cnt (r.length + 16) + k := ⟨m - cnt (r.length + 16), by omega⟩
  rw [Whole, txt_add, ht, List.append_assoc]
  refine ⟨rd_mk h2 h3 h1 _, fun i hi => ?_, fun j hj hlt => ?_⟩
  · rw [h i (by rw [secsOf_len, mk_len]; exact hi), secsOf_get _ _ _ _ (by rw [mk_len]; exact hi), sb_sect _ _ _ (prt_len _ _) (by omega)]
  · simp only [List.getD_eq_getElem?_getD]
    rw [List.getElem?_append_right (by rw [mk_len]; exact hlt), mk_len]
    have h54 : r.length + 16 ≤ 54 * cnt (r.length + 16) := by unfold cnt; omega
    rw [List.getElem?_append_left (by simp; omega), List.getElem?_replicate]
    split <;> rfl
/-- Boots that fit, one behind another. -/
def Fit (fits : Nat → Nat → Bool) : Nat → List (Nat × List Nat) → Prop
  | _, [] => True
  | lb, x :: rs => fits lb x.1 = true ∧ Fit fits x.1 rs
theorem scan_lay {fits : Nat → Nat → Bool} {D : Nat → List Nat} : ∀ (rs : List (Nat × List Nat)) (k last lb n m : Nat), (∀ x ∈ rs, Ok x) → Fit fits lb rs → At D n (lay n last rs) → lenOf rs ≤ m →
    scan fits D (rs.length + k) last lb n m = rs ++ scan fits D k (lastOf last rs) (bootOf lb rs) (n + lenOf rs) (m - lenOf rs)
  | [], k, last, lb, n, m, _, _, _, _ => by simp [lenOf, lastOf, bootOf]
  | (b, r) :: rs, k, last, lb, n, m, ho, hf, ha, hm => by
    rw [lenOf_cons] at hm
    obtain ⟨h1, h2⟩ := whole_of (m := m) (ho _ (by simp)) ha.left (by simp only at hm; omega)
    have hr := ha.right
    rw [secsOf_len, mk_len] at hr
    rw [List.length_cons, show rs.length + 1 + k = rs.length + k + 1 by omega, scan_yes _ h1 hf.1 h2, scan_lay rs k _ _ _ _ (fun x hx => ho x (by simp [hx])) hf.2 hr (by simp only at hm; omega), lenOf_cons]
    simp only [List.cons_append, lastOf, bootOf, List.foldl_cons, Nat.add_assoc, Nat.sub_sub]
/-- A place whose length is nought: no frame. -/
theorem rd_zero {last : Nat} {X : List Nat} (h : X.take 4 = [0, 0, 0, 0]) : rd last X = none := by
  unfold rd
  rw [if_neg]
  rw [h]
  intro h2
  have := h2.1
  simp [le] at this
theorem rd_short {last : Nat} {X : List Nat} (h : X.length < 17) : rd last X = none := by
  unfold rd
  rw [if_neg]
  intro h2
  omega
end Go.Proofs.Yteohjfhflodklaa
