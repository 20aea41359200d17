/-
  CONTRACT: num.Parse at every text: its number and its error; of what was there nothing has turned. Condition: strconv.ErrRange lies as the program's text lays it.
-/
import Derived.Test.YteikheaanefgbaaDoorKeys
import Derived.Lib.AtoiAll
import Derived.Lib.AtoiAllCases
import Derived.Lib.AtoiErrMem
import Derived.Lib.AtoiTie
namespace Go.Proofs.YteikheaanefgbaaDoor
open Go.RowKit

def trimV (s : ByteArray) : ByteArray := ⟨(Lib.trimPrefix s.data.toList [45]).toArray⟩
def formB (s : ByteArray) : Bool := (s.data.toList == [48]) || plainB (trimV s).data.toList

theorem val_nil (acc : Nat) : val acc [] = acc := List.foldl_nil
theorem val_cons (acc : Nat) (c : UInt8) (r : List UInt8) : val acc (c :: r) = val (acc * 10 + (c.toNat - 48)) r := List.foldl_cons ..
theorem val_ge (l : List UInt8) : ∀ acc : Nat, acc ≤ val acc l := by
  induction l with
  | nil => intro acc; rw [val_nil]; exact Nat.le_refl _
  | cons c r ih =>
    intro acc
    have := ih (acc * 10 + (c.toNat - 48))
    rw [val_cons]
    omega
theorem val_snoc (l : List UInt8) (c : UInt8) : ∀ acc : Nat, val acc (l ++ [c]) = val acc l * 10 + (c.toNat - 48) := by
  induction l with
  | nil => intro acc; rw [List.nil_append, val_cons, val_nil, val_nil]
  | cons d r ih => intro acc; rw [List.cons_append, val_cons, val_cons, ih]
theorem val_bound (l : List UInt8) : ∀ acc : Nat, l.all digB = true → val acc l < (acc + 1) * 10 ^ l.length := by
  induction l with
  | nil => intro acc _; rw [val_nil]; simp
  | cons c r ih =>
    intro acc h
    simp only [List.all_cons, Bool.and_eq_true] at h
    have hd : 48 ≤ c.toNat ∧ c.toNat ≤ 57 := by simpa [digB] using h.1
    have := ih (acc * 10 + (c.toNat - 48)) h.2
    rw [val_cons, List.length_cons, Nat.pow_succ]
    refine Nat.lt_of_lt_of_le this ?_
    rw [Nat.mul_comm (10 ^ r.length) 10, ← Nat.mul_assoc]
    exact Nat.mul_le_mul_right _ (by omega)

theorem parse_val (l : List UInt8) : ∀ acc : Nat, acc < 18446744073709551616 → l.all digB = true →
    Lib.parseUint10 acc l = if val acc l < 18446744073709551616 then .ok (val acc l) else .range := by
  induction l with
  | nil => intro acc h _; rw [Lib.parseUint10, val_nil, if_pos h]
  | cons c r ih =>
    intro acc h ha
    simp only [List.all_cons, Bool.and_eq_true] at ha
    have hd : 48 ≤ c.toNat ∧ c.toNat ≤ 57 := by simpa [digB] using ha.1
    have hg := val_ge r (acc * 10 + (c.toNat - 48))
    rw [Lib.parseUint10, val_cons, if_pos hd]
    by_cases h1 : 1844674407370955162 ≤ acc
    · rw [if_pos h1, if_neg (by omega)]
    · rw [if_neg h1]
      by_cases h2 : 18446744073709551616 ≤ acc * 10 + (c.toNat - 48)
      · rw [if_pos h2, if_neg (by omega)]
      · rw [if_neg h2]
        exact ih _ (by omega) ha.2

theorem plain_ne {l : List UInt8} (h : plainB l = true) : l ≠ [] := by
  intro e; subst e; simp [plainB] at h
theorem plain_all {l : List UInt8} (h : plainB l = true) : l.all digB = true := by
  unfold plainB at h; simp only [Bool.and_eq_true] at h; exact h.2
theorem mag_val {l : List UInt8} (h : plainB l = true) : Lib.parseMag l = if val 0 l < 18446744073709551616 then .ok (val 0 l) else .range := by
  unfold Lib.parseMag
  rw [if_neg (plain_ne h), parse_val l 0 (by omega) (plain_all h)]

/-- What Atoi says of digits without a sign. -/
theorem atoi_plain {l : List UInt8} (h : plainB l = true) : Lib.atoiAll l = if val 0 l < 9223372036854775808 then .ok (val 0 l : Int) else .range := by
  have hm := mag_val h
  have ha := plain_all h
  cases l with
  | nil => exact absurd rfl (plain_ne h)
  | cons c r =>
    simp only [List.all_cons, Bool.and_eq_true] at ha
    have hd : 48 ≤ c.toNat ∧ c.toNat ≤ 57 := by simpa [digB] using ha.1
    rw [Lib.atoiAll_plain c r (by omega) (by omega), hm]
    generalize val 0 (c :: r) = u
    by_cases h1 : u < 18446744073709551616
    · rw [if_pos h1]
      by_cases h2 : u < 9223372036854775808
      · rw [if_pos h2]; simp only [Lib.signless]; rw [if_neg (by omega)]
      · rw [if_neg h2]; simp only [Lib.signless]; rw [if_pos (by omega)]
    · rw [if_neg h1, if_neg (by omega)]; rfl
/-- What Atoi says of digits behind a -. -/
theorem atoi_minus {l : List UInt8} (h : plainB l = true) : Lib.atoiAll (45 :: l) = if val 0 l ≤ 9223372036854775808 then .ok (-(val 0 l : Int)) else .range := by
  rw [Lib.atoiAll_minus, mag_val h]
  generalize val 0 l = u
  by_cases h1 : u < 18446744073709551616
  · rw [if_pos h1]
    by_cases h2 : u ≤ 9223372036854775808
    · rw [if_pos h2]; simp only [Lib.signed]; rw [if_neg (by omega)]
    · rw [if_neg h2]; simp only [Lib.signed]; rw [if_pos (by omega)]
  · rw [if_neg h1, if_neg (by omega)]; rfl
theorem atoi_zero : Lib.atoiAll [48] = .ok 0 := by decide

theorem trim_plain {l : List UInt8} (h : plainB l = true) : Lib.trimPrefix l [45] = l := by
  have ha := plain_all h
  cases l with
  | nil => rfl
  | cons c r =>
    simp only [List.all_cons, Bool.and_eq_true] at ha
    have hd : 48 ≤ c.toNat ∧ c.toNat ≤ 57 := by simpa [digB] using ha.1
    have hc : ¬ (45 : UInt8) = c := by
      intro e; rw [← e] at hd; exact absurd hd.1 (by decide)
    unfold Lib.trimPrefix Lib.hasPrefix
    simp [hc]
theorem trim_minus (l : List UInt8) : Lib.trimPrefix (45 :: l) [45] = l := by
  unfold Lib.trimPrefix Lib.hasPrefix
  simp

theorem trim_any (s d : ByteArray) (H : Hid (trimV s = d)) (w : World) : Calls Tryd.prog 57 #[.string s, .string ⟨#[45]⟩] w fun e w' => e = .returned (.string d) ∧ w = w' := by
  refine (Tryd.strings_TrimPrefix s ⟨#[45]⟩ w).mono ?_
  rintro e w' ⟨rfl, rfl⟩
  exact ⟨ret_str H.out, rfl⟩

theorem all_snoc (l : List UInt8) (k : Nat) (h : k < l.length) : (l.take (k + 1)).all digB = ((l.take k).all digB && digB l[k]) := by
  rw [List.take_succ_eq_append_getElem h, List.all_append]; simp

set_option maxHeartbeats 400000 in
theorem isForm_core (s d : ByteArray) (w : World) (hT : Hid (trimV s = d)) (hs : (s.toList == [48]) = false) (hm : d.size ≤ maxLen) :
    Calls Tryd.prog 49 #[.string s] w fun e w' => e = .returned (.bool (plainB d.data.toList)) ∧ w = w' := by
  obtain ⟨b, hb⟩ : ∃ b, b = plainB d.data.toList := ⟨_, rfl⟩
  rw [← hb]
  have HB := Lib.hid hb
  clear hb
  unfold maxLen at hm
  have hdl : d.toList = d.data.toList := ByteArray.toList_eq d
  have HDL := Lib.hid hdl
  have hsz : d.data.toList.length = d.size := Array.length_toList
  have HSZ := Lib.hid hsz
  clear hdl hsz
  by_cases h0 : d.size = 0
  · have he : d.data.toList = [] := List.length_eq_zero_iff.1 (HSZ.out.trans h0)
    have hE : d = ⟨#[]⟩ := Go.WideShapes.bytes_inj he
    subst hE
    obtain rfl : b = false := by rw [HB.out]; rfl
    clear h0 he HB hm HDL HSZ
    go_enter Tryd.func49, Tryd.ntmps49
    go_wp2_with (go_at_call 57; refine (trim_any _ _ hT _).mono ?_; rintro e w' ⟨rfl, rfl⟩)
    go_ret
    exact ⟨rfl, rfl⟩
  · have hp : 0 < d.size := by omega
    have hne : d.toList.isEmpty = false := by
      rw [HDL.out]; cases hl : d.data.toList with
      | nil => have := HSZ.out; rw [hl] at this; simp at this; omega
      | cons => rfl
    have hh : d.data.toList.headD 48 = d[0] := by
      rw [List.headD_eq_head?_getD, List.head?_eq_getElem?, List.getElem?_eq_getElem (by rw [HSZ.out]; exact hp)]; rfl
    by_cases hz : d[0] = 48
    · have hz1 : ((d[0].toNat : Int) == 48) = true := by rw [hz]; rfl
      obtain rfl : b = false := by rw [HB.out]; unfold plainB; rw [hh, hz]; simp
      clear hz hh HB h0
      go_enter Tryd.func49, Tryd.ntmps49
      go_wp2_with (go_at_call 57; refine (trim_any _ _ hT _).mono ?_; rintro e w' ⟨rfl, rfl⟩)
      go_ret
      exact ⟨rfl, rfl⟩
    · have hz1 : ((d[0].toNat : Int) == 48) = false := by
        simp; intro e; apply hz; exact UInt8.toNat_inj.1 (by simpa using (by omega : d[0].toNat = 48))
      have hv : b = d.data.toList.all digB := by
        rw [HB.out]; unfold plainB; rw [hh]
        have : d.data.toList.isEmpty = false := by rw [← HDL.out]; exact hne
        simp [this, hz]
      have HV := Lib.hid hv
      clear hz hh HB h0 hv
      go_enter Tryd.func49, Tryd.ntmps49
      go_wp2_with (go_at_call 57; refine (trim_any _ _ hT _).mono ?_; rintro e w' ⟨rfl, rfl⟩)
      go_loop [18] (fun i => ∃ k : Nat, k ≤ d.size ∧ i = .int .i64 k ∧ Hid ((d.data.toList.take k).all digB = true)) (fun i => d.size - (intOf i).toNat)
      case atStart => exact ⟨0, Nat.zero_le _, rfl, rfl⟩
      case round =>
        obtain ⟨k, hk, rfl, HK⟩ := hrel
        by_cases hlt : k < d.size
        · have hg : d.data.toList[k]'(by rw [HSZ.out]; exact hlt) = d[k] := rfl
          have hsn := all_snoc d.data.toList k (by rw [HSZ.out]; exact hlt)
          rw [hg, HK.out, Bool.true_and] at hsn
          by_cases hd : digB d[k] = true
          · have hk1 : (d.data.toList.take (k + 1)).all digB = true := by rw [hsn]; exact hd
            have HK1 := Lib.hid hk1
            have hd1 : 48 ≤ d[k].toNat ∧ d[k].toNat ≤ 57 := by simpa [digB] using hd
            have l1 : ¬ (d[k].toNat : Int) < 48 := by omega
            have l2 : ¬ 57 < (d[k].toNat : Int) := by omega
            clear hg hsn hd hk1 hd1
            go_wp2
            go_round
            case rel => exact ⟨k + 1, by omega, by go_num, HK1⟩
            case measure => simp [intOf]; omega
          · have hf : b = false := by
              rw [HV.out, ← List.take_append_drop (k + 1) d.data.toList, List.all_append, hsn]
              simp [hd]
            subst hf
            have hd1 : d[k].toNat < 48 ∨ 57 < d[k].toNat := by
              have : ¬ (48 ≤ d[k].toNat ∧ d[k].toNat ≤ 57) := by simpa [digB] using hd
              omega
            rcases hd1 with hd1 | hd1
            · have l1 : (d[k].toNat : Int) < 48 := by omega
              clear hg hsn hd hd1
              go_wp2
              go_ret
              exact ⟨rfl, rfl⟩
            · have l1 : ¬ (d[k].toNat : Int) < 48 := by omega
              have l2 : 57 < (d[k].toNat : Int) := by omega
              clear hg hsn hd hd1
              go_wp2
              go_ret
              exact ⟨rfl, rfl⟩
        · have hf : b = true := by
            rw [HV.out]; have := HK.out; rwa [List.take_of_length_le (by rw [HSZ.out]; omega)] at this
          subst hf
          go_wp2
          go_ret
          exact ⟨rfl, rfl⟩

theorem trim_size (s : ByteArray) : (trimV s).size ≤ s.size := by
  have h1 : (trimV s).size = (Lib.trimPrefix s.data.toList [45]).length := List.size_toArray
  have h2 := Lib.trimPrefix_le s.data.toList [45]
  have h3 : s.data.toList.length = s.size := Array.length_toList
  omega

set_option maxHeartbeats 400000 in
theorem isForm_any (s : ByteArray) (w : World) (hm : s.size ≤ maxLen) : Calls Tryd.prog 49 #[.string s] w fun e w' => e = .returned (.bool (formB s)) ∧ w = w' := by
  have e1 := ByteArray.toList_eq s
  by_cases h : (s.toList == [48]) = true
  · have hv : formB s = true := by unfold formB; rw [← e1, h]; rfl
    rw [hv]
    clear hv e1
    go_enter Tryd.func49, Tryd.ntmps49
    go_wp2
    go_ret
    exact ⟨rfl, rfl⟩
  · have h' : (s.toList == [48]) = false := by simpa using h
    have hv : formB s = plainB (trimV s).data.toList := by unfold formB; rw [← e1, h']; rfl
    rw [hv]
    exact isForm_core s (trimV s) w (Lib.hid rfl) h' (Nat.le_trans (trim_size s) hm)

/-- The number of a text, and its error. -/
def specP (s : ByteArray) : Int × Int :=
  if formB s = true then
    (if (trimV s).size < s.size then (if val 0 (trimV s).data.toList ≤ 9223372036854775808 then (-(val 0 (trimV s).data.toList : Int), 0) else (0, 2))
     else (if val 0 (trimV s).data.toList < 9223372036854775808 then ((val 0 (trimV s).data.toList : Int), 0) else (0, 2)))
  else (0, 1)

theorem spec_no {s : ByteArray} (h : formB s = false) : specP s = (0, 1) := by
  unfold specP; rw [if_neg (by rw [h]; decide)]
theorem spec_neg {s : ByteArray} (h : formB s = true) (hl : (trimV s).size < s.size) :
    specP s = if val 0 (trimV s).data.toList ≤ 9223372036854775808 then (-(val 0 (trimV s).data.toList : Int), 0) else (0, 2) := by
  unfold specP; rw [if_pos h, if_pos hl]
theorem spec_pos {s : ByteArray} (h : formB s = true) (hl : ¬ (trimV s).size < s.size) :
    specP s = if val 0 (trimV s).data.toList < 9223372036854775808 then ((val 0 (trimV s).data.toList : Int), 0) else (0, 2) := by
  unfold specP; rw [if_pos h, if_neg hl]

theorem trim_neg (s d : ByteArray) (h : 0 < s.size) (h45 : s[0] = 45) (hd : s.extract 1 s.size = d) : trimV s = d ∧ d.size + 1 = s.size := by
  obtain ⟨r, hr⟩ := head_at s h
  have he : d.data.toList = r := by
    rw [← hd, ByteArray.data_extract]
    rw [Array.toList_extract, List.extract_eq_take_drop, hr]
    have : r.length + 1 = s.size := by rw [← len_size s, hr]; rfl
    rw [List.drop_one, List.tail_cons, List.take_of_length_le (by omega)]
  have ht : (trimV s).data.toList = r := by
    show (Lib.trimPrefix s.data.toList [45]) = r
    rw [hr, h45, trim_minus]
  refine ⟨Go.WideShapes.bytes_inj (by rw [he, ht]), ?_⟩
  rw [← len_size d, ← len_size s, he, hr]; rfl
theorem trim_pos (s : ByteArray) (h : s.size = 0 ∨ ∃ h : 0 < s.size, s[0] ≠ 45) : trimV s = s := by
  refine Go.WideShapes.bytes_inj ?_
  show Lib.trimPrefix s.data.toList [45] = s.data.toList
  rcases h with h | ⟨h, h45⟩
  · have : s.data.toList = [] := List.length_eq_zero_iff.1 ((len_size s).trans h)
    rw [this]; rfl
  · obtain ⟨r, hr⟩ := head_at s h
    rw [hr]
    unfold Lib.trimPrefix Lib.hasPrefix
    have : ¬ (45 : UInt8) = s[0] := fun e => h45 e.symm
    simp [this]

theorem form_empty {s d : ByteArray} (hd : trimV s = d) (h : d.size = 0) (hs : (s.toList == [48]) = false) : formB s = false := by
  unfold formB
  rw [← ByteArray.toList_eq, hs, hd]
  have : d.data.toList = [] := List.length_eq_zero_iff.1 ((len_size d).trans h)
  rw [this]; rfl
theorem form_zero {s d : ByteArray} (hd : trimV s = d) (h : 0 < d.size) (h48 : d[0] = 48) (hs : (s.toList == [48]) = false) : formB s = false := by
  unfold formB
  rw [← ByteArray.toList_eq, hs, hd]
  obtain ⟨r, hr⟩ := head_at d h
  rw [hr, h48]; simp [plainB]
theorem form_all {s d : ByteArray} (hd : trimV s = d) (h : 0 < d.size) (h48 : d[0] ≠ 48) (hs : (s.toList == [48]) = false) : formB s = d.data.toList.all digB := by
  unfold formB
  rw [← ByteArray.toList_eq, hs, hd]
  obtain ⟨r, hr⟩ := head_at d h
  rw [hr]; simp [plainB, h48]
set_option maxHeartbeats 400000 in
theorem parse_ok (s : ByteArray) (v : Int) (w : World) (hlim : s.size ≤ 281474976710656) (hf : formB s = true) (h : Lib.atoiAll s.data.toList = .ok v) :
    Calls Tryd.prog 44 #[.string s] w fun e w' => e = .returned (.tuple #[.int .i64 v, .int .i64 0]) ∧ Below w.heap.size w w' := by
  have hc : Calls Tryd.prog 50 #[.string s] w fun e w' => e = .returned (.tuple #[.int .i64 v, .nilIface]) ∧ Below w.heap.size w w' := by
    refine (Tryd.strconv_Atoi_ok s (by omega) v h w).mono ?_
    rintro e w' ⟨rfl, rfl | ⟨t, rfl⟩⟩
    · exact ⟨rfl, Below.refl _ _⟩
    · exact ⟨rfl, Lib.bytesWorld_below _ _ _⟩
  have hi : Calls Tryd.prog 49 #[.string s] w fun e w' => e = .returned (.bool true) ∧ w = w' := by
    rw [← hf]
    exact isForm_any s w (by unfold maxLen; omega)
  have HC := Lib.hid hc
  have HI := Lib.hid hi
  clear hc hi h hf hlim
  go_enter Tryd.func44, Tryd.ntmps44
  go_wp2_with (first | (go_at_call 49; refine HI.out.mono ?_; rintro e w' ⟨rfl, rfl⟩) | (go_at_call 50; refine HC.out.mono ?_; rintro e w' ⟨rfl, hb⟩))
  go_ret2
  exact ⟨rfl, hb⟩

/-- What Atoi says of a text that is right in form is what is specified. -/
theorem parse_spec (s : ByteArray) (h : formB s = true) : (∃ v, Lib.atoiAll s.data.toList = .ok v ∧ specP s = (v, 0)) ∨ (Lib.atoiAll s.data.toList = .range ∧ specP s = (0, 2)) := by
  by_cases h0 : s.size = 0
  · have hE : s = ⟨#[]⟩ := Go.WideShapes.bytes_inj (List.length_eq_zero_iff.1 ((len_size s).trans h0))
    subst hE
    exact absurd h (by decide)
  · have hp : 0 < s.size := by omega
    obtain ⟨r, hr⟩ := head_at s hp
    by_cases h45 : s[0] = 45
    · obtain ⟨ht, hds⟩ := trim_neg s _ hp h45 rfl
      have hd : (trimV s).data.toList = r := by
        show Lib.trimPrefix s.data.toList [45] = r
        rw [hr, h45, trim_minus]
      have hpl : plainB r = true := by
        unfold formB at h
        rw [hd, hr, h45] at h
        simpa using h
      have hlt : (trimV s).size < s.size := by rw [ht]; omega
      rw [spec_neg h hlt, hd, hr, h45, atoi_minus hpl]
      by_cases hv : val 0 r ≤ 9223372036854775808
      · rw [if_pos hv, if_pos hv]; exact Or.inl ⟨_, rfl, rfl⟩
      · rw [if_neg hv, if_neg hv]; exact Or.inr ⟨rfl, rfl⟩
    · have ht := trim_pos s (Or.inr ⟨hp, h45⟩)
      rw [spec_pos h (by rw [ht]; omega), ht]
      by_cases hz : s.data.toList = [48]
      · rw [hz, atoi_zero]
        exact Or.inl ⟨0, rfl, by decide⟩
      · have hpl : plainB s.data.toList = true := by
          unfold formB at h
          rw [ht] at h
          simpa [hz] using h
        rw [atoi_plain hpl]
        by_cases hv : val 0 s.data.toList < 9223372036854775808
        · rw [if_pos hv, if_pos hv]; exact Or.inl ⟨_, rfl, rfl⟩
        · rw [if_neg hv, if_neg hv]; exact Or.inr ⟨rfl, rfl⟩

set_option maxHeartbeats 400000 in
theorem parse_any (s : ByteArray) (p : Int × Int) (w : World) (G : ∃ tp p, w.var? Tryd.prog "strconv.ErrRange" = some #[.iface tp p]) (hlim : s.size ≤ 281474976710656) (hp : Hid (specP s = p)) :
    Calls Tryd.prog 44 #[.string s] w fun e w' => e = .returned (.tuple #[.int .i64 p.1, .int .i64 p.2]) ∧ Below w.heap.size w w' := by
  by_cases hf : formB s = true
  · rcases parse_spec s hf with ⟨v, hv, hs⟩ | ⟨hv, hs⟩
    · have hpv := hp.out
      rw [hs] at hpv
      subst hpv
      exact parse_ok s v w hlim hf hv
    · have hpv := hp.out
      rw [hs] at hpv
      subst hpv
      obtain ⟨tp, q, hvar⟩ := G
      have hc := Tryd.strconv_Atoi_range_var s hlim hv tp q w hvar
      have hi : Calls Tryd.prog 49 #[.string s] w fun e w' => e = .returned (.bool true) ∧ w = w' := by
        rw [← hf]
        exact isForm_any s w (by unfold maxLen; omega)
      have HC := Lib.hid hc
      have HI := Lib.hid hi
      clear hc hi hv hf hlim hvar hs hp
      go_enter Tryd.func44, Tryd.ntmps44
      go_wp2_with (first | (go_at_call 49; refine HI.out.mono ?_; rintro e w' ⟨rfl, rfl⟩) | (go_at_call 50; refine HC.out.mono ?_; rintro e w' ⟨K, rfl, _, _, hb⟩))
      go_ret2
      exact ⟨rfl, hb⟩
  · have hf' : formB s = false := by simpa using hf
    have hpv := hp.out
    rw [spec_no hf'] at hpv
    subst hpv
    have hi : Calls Tryd.prog 49 #[.string s] w fun e w' => e = .returned (.bool false) ∧ w = w' := by
      rw [← hf']
      exact isForm_any s w (by unfold maxLen; omega)
    have HI := Lib.hid hi
    clear hi hf hf' hlim hp G
    go_enter Tryd.func44, Tryd.ntmps44
    go_wp2_with (go_at_call 49; refine HI.out.mono ?_; rintro e w' ⟨rfl, rfl⟩)
    go_ret2
    exact ⟨rfl, Below.refl _ _⟩

end Go.Proofs.YteikheaanefgbaaDoor
