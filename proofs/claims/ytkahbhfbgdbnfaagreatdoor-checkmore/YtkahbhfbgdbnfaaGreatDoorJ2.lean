/-
  CONTRACTS: IsKey and IsWord at every text, where the table of keys lies as the program's text lays it; Line at every text of at most 2^48 bytes and every place. The world is as it was.
-/
import Derived.Test.YtkahbhfbgdbnfaaGreatDoorJ1
import Derived.Laws.Rows
import Derived.Lib.AtoiAll
import Derived.Lib.AtoiAllCases
import Derived.Lib.AtoiErrMem
import Derived.Lib.AtoiTie
import Derived.Deep.QuietTactic
import Derived.BigQuiet
namespace Go.Proofs.YtkahbhfbgdbnfaaGreatDoor
open Go.RowKit

def tabOf (ls : List (List UInt8)) : Array Value := (ls.map fun l => Value.string ⟨l.toArray⟩).toArray
def tabK : Array Value := tabOf keyTab
def tabG : Array Value := tabOf longTab
def KeysIn (w : World) : Prop := ∃ t fr, w.heap[0]? = some (.cells tabK t fr)
def LongsIn (w : World) : Prop := ∃ t fr, w.heap[1]? = some (.cells tabG t fr)
theorem info103 : (Tryz.prog.info? 150).map (·.size) = some tabK.size := by kernel_rfl
theorem info110 : (Tryz.prog.info? 183).map (·.size) = some tabG.size := by kernel_rfl
theorem tab_at (ls : List (List UInt8)) (k : Nat) (h : k < ls.length) : (tabOf ls)[k]? = some (.string ⟨(ls.getD k []).toArray⟩) := by
  unfold tabOf; rw [List.getElem?_toArray, List.getElem?_map, List.getElem?_eq_getElem h, List.getD_eq_getElem?_getD, List.getElem?_eq_getElem h]; rfl
theorem tab_index (ls : List (List UInt8)) (t n : Nat) (k : Nat) (hk : k < ls.length) (hn : ls.length = n) (hu : Tryz.prog.underlying t = some (.array n 9)) (w : World) :
    (Instr.index t (.agg (tabOf ls)) (.int .i64 k)).run Tryz.prog w = .ok (.string ⟨(ls.getD k []).toArray⟩) w := by
  have h1 := tab_at ls k hk
  have h2 : k < n := by omega
  generalize ls.getD k [] = d at h1 ⊢
  simp [Instr.index, run_underlying hu, asIntOf, go_sem, h2, h1, Tryz.sizeOf9, Tryz.isAgg9]

theorem keys_index (k : Nat) (hk : k < 16) (w : World) : (Instr.index 150 (.agg tabK) (.int .i64 k)).run Tryz.prog w = .ok (.string ⟨(keyTab.getD k []).toArray⟩) w := tab_index keyTab 150 16 k hk rfl Tryz.underlying150 w
theorem longs_index (k : Nat) (hk : k < 9) (w : World) : (Instr.index 183 (.agg tabG) (.int .i64 k)).run Tryz.prog w = .ok (.string ⟨(longTab.getD k []).toArray⟩) w := tab_index longTab 183 9 k hk rfl Tryz.underlying183 w
theorem str_eq {s : ByteArray} {t : List UInt8} (h : t = s.data.toList) : (⟨t.toArray⟩ : ByteArray) = s := by rw [h]
theorem contains_step (ls : List (List UInt8)) (k : Nat) (l : List UInt8) (h : k < ls.length) : (ls.drop k).contains l = (l == ls.getD k [] || (ls.drop (k + 1)).contains l) := by
  rw [List.drop_eq_getElem_cons h, List.contains_cons, List.getD_eq_getElem?_getD, List.getElem?_eq_getElem h]; rfl
theorem toList_ne {s : ByteArray} {t : List UInt8} (h : (s.data.toList == t) = false) : (s.toList == t) = false := by rw [ByteArray.toList_eq]; exact h

set_option maxRecDepth 100000 in
set_option maxHeartbeats 400000 in
theorem isKey_any (s : ByteArray) (w : World) (hK : KeysIn w) : Calls Tryz.prog 116 #[.string s] w fun e w' => e = .returned (.bool (keyB s.data.toList)) ∧ w = w' := by
  obtain ⟨t, fr, hg⟩ := hK
  have HG := Lib.hid hg
  obtain ⟨b, hb⟩ : ∃ b, b = keyB s.data.toList := ⟨_, rfl⟩
  rw [← hb]
  have HB := Lib.hid hb
  clear hg hb
  go_enter Tryz.func116, Tryz.ntmps116
  go_wp2_with (refine wpList_load_row rfl 150 _ rfl 0 rfl t tabK fr _ HG.out Tryz.underlying150 rfl info103 ?_)
  go_loop [6] (fun i => ∃ k : Nat, k ≤ 16 ∧ i = .int .i64 k ∧ Hid (b = (keyTab.drop k).contains s.data.toList)) (fun i => 16 - (intOf i).toNat)
  case atStart => exact ⟨0, by omega, rfl, HB⟩
  case round =>
    obtain ⟨k, hk, rfl, HK⟩ := hrel
    by_cases hlt : k < 16
    · have hix := keys_index k hlt
      have hst := contains_step keyTab k s.data.toList hlt
      rw [← HK.out] at hst
      have HST := Lib.hid hst
      clear hst
      generalize keyTab.getD k [] = d at hix HST
      cases hm : (s.data.toList == d) with
      | true =>
        have hd : d = s.data.toList := (beq_iff_eq.1 hm).symm
        have hbt : b = true := by rw [HST.out, hm]; rfl
        subst hbt
        rw [str_eq hd] at hix
        clear hm hd HST HK
        go_wp2_with fail
        go_ret
        exact ⟨rfl, rfl⟩
      | false =>
        have hne := toList_ne hm
        have HB2 : Hid (b = (keyTab.drop (k + 1)).contains s.data.toList) := by
          show _ = _
          rw [HST.out, hm]; rfl
        clear hm HST HK
        go_wp2_with fail
        go_round
        case rel => exact ⟨k + 1, by omega, by go_num, HB2⟩
        case measure => simp [intOf]; omega
    · have hbf : b = false := by rw [HK.out, show k = 16 by omega]; rfl
      subst hbf
      go_wp2_with fail
      go_ret
      exact ⟨rfl, rfl⟩

def wordB (l : List UInt8) : Bool := decide (l.length ≤ 12) && afterB l && l.all wchB && !keyB l
theorem run_all (f : UInt8 → Bool) (l : List UInt8) : (runN f l = l.length) ↔ l.all f = true := by
  induction l with
  | nil => simp [runN]
  | cons c r ih =>
    cases h : f c with
    | true => rw [runN_pos r h, List.all_cons, h, List.length_cons, Bool.true_and, ← ih]; omega
    | false => rw [runN_zero r h, List.all_cons, h, List.length_cons]; simp
theorem end_all (f : UInt8 → Bool) (l : List UInt8) : (endAt f l 0 = l.length) ↔ l.all f = true := by
  unfold endAt; rw [List.drop_zero, Nat.zero_add]; exact run_all f l
theorem head_at (s : ByteArray) (h : 0 < s.size) : ∃ r, s.data.toList = s[0] :: r := by
  have hl := len_size s
  cases hs : s.data.toList with
  | nil => rw [hs] at hl; simp at hl; omega
  | cons c r =>
    refine ⟨r, ?_⟩
    have h0 : s.data.toList[0]'(by omega) = s[0] := rfl
    simp only [hs, List.getElem_cons_zero] at h0
    rw [← h0]
theorem after_at (s : ByteArray) (h : 0 < s.size) : afterB s.data.toList = letB s[0] := by
  obtain ⟨r, hr⟩ := head_at s h
  rw [hr]; rfl
theorem size_zero {s : ByteArray} (h : s.size = 0) : s = ⟨#[]⟩ := Go.WideShapes.bytes_inj (List.length_eq_zero_iff.1 ((len_size s).trans h))
theorem size_pos_isEmpty {s : ByteArray} (h : 0 < s.size) : s.toList.isEmpty = false := by
  rw [ByteArray.toList_eq]
  obtain ⟨r, hr⟩ := head_at s h
  rw [hr]; rfl

set_option maxRecDepth 100000 in
set_option maxHeartbeats 400000 in
theorem isWord_any (s : ByteArray) (w : World) (hs : s.size ≤ 281474976710656) (hK : KeysIn w) : Calls Tryz.prog 85 #[.string s] w fun e w' => e = .returned (.bool (wordB s.data.toList)) ∧ w = w' := by
  obtain ⟨b, hb⟩ : ∃ b, b = wordB s.data.toList := ⟨_, rfl⟩
  rw [← hb]
  have HB := Lib.hid hb
  have HS := Lib.hid hK
  clear hb hK
  by_cases h0 : s.size = 0
  · have := size_zero h0
    subst this
    obtain rfl : b = false := HB.out.trans (by decide)
    clear HB h0 hs
    go_enter Tryz.func85, Tryz.ntmps85
    go_wp2_with fail
    go_ret
    exact ⟨rfl, rfl⟩
  · have hp : 0 < s.size := by omega
    have he := size_pos_isEmpty hp
    by_cases h12 : 12 < s.size
    · have hi : (12 : Int) < (s.size : Int) := by omega
      obtain rfl : b = false := HB.out.trans (by unfold wordB; rw [len_size, decide_eq_false (by omega)]; rfl)
      go_enter Tryz.func85, Tryz.ntmps85
      go_wp2_with fail
      go_ret
      exact ⟨rfl, rfl⟩
    · have hi : ¬ (12 : Int) < (s.size : Int) := by omega
      have hb2 : b = (letB s[0] && s.data.toList.all wchB && !keyB s.data.toList) := by
        rw [HB.out]; unfold wordB; rw [len_size, decide_eq_true (by omega), after_at s hp]; simp
      have HB2 := Lib.hid hb2
      clear hb2 HB h0
      cases h1 : letB s[0] with
      | false =>
        have hc : Calls Tryz.prog 114 #[.int .u8 s[0].toNat] w fun e w' => e = .returned (.bool false) ∧ w = w' := by rw [← h1]; exact isLetter_any _ _
        have HC := Lib.hid hc
        obtain rfl : b = false := by rw [HB2.out, h1]; rfl
        clear h1 hc
        go_enter Tryz.func85, Tryz.ntmps85
        go_wp2_with (go_at_call 114; refine HC.out.mono ?_; rintro e w' ⟨rfl, rfl⟩)
        go_ret
        exact ⟨rfl, rfl⟩
      | true =>
        have hc : Calls Tryz.prog 114 #[.int .u8 s[0].toNat] w fun e w' => e = .returned (.bool true) ∧ w = w' := by rw [← h1]; exact isLetter_any _ _
        have HC := Lib.hid hc
        have H1 := Lib.hid h1
        have ha := end_all wchB s.data.toList
        rw [len_size] at ha
        have hle : endAt wchB s.data.toList 0 ≤ s.size := by rw [← len_size]; exact endAt_le (Nat.zero_le _)
        obtain ⟨q, hq⟩ : ∃ q, endAt wchB s.data.toList 0 = q := ⟨_, rfl⟩
        rw [hq] at ha hle
        have HQ := Lib.hid hq
        have HA := Lib.hid ha
        have hw : Calls Tryz.prog 115 #[.string s, .int .i64 0] w fun e w' => e = .returned (.int .i64 q) ∧ w = w' := wordEnd_any s 0 q w hs (Nat.zero_le _) HQ
        have HW := Lib.hid hw
        clear hq ha h1 hc hw
        by_cases he2 : q = s.size
        · have hall := HA.out.1 he2
          have hb3 : b = !keyB s.data.toList := by rw [HB2.out, H1.out, hall]; simp
          cases hk : keyB s.data.toList with
          | true =>
            obtain rfl : b = false := by rw [hb3, hk]; rfl
            have hkc : Calls Tryz.prog 116 #[.string s] w fun e w' => e = .returned (.bool true) ∧ w = w' := by rw [← hk]; exact isKey_any s w HS.out
            have HKC := Lib.hid hkc
            subst he2
            clear hb3 hk hkc hall HB2 HA HQ
            go_enter Tryz.func85, Tryz.ntmps85
            go_wp2_with (first | (go_at_call 114; refine HC.out.mono ?_; rintro e w' ⟨rfl, rfl⟩) | (go_at_call 115; refine HW.out.mono ?_; rintro e w' ⟨rfl, rfl⟩) | (go_at_call 116; refine HKC.out.mono ?_; rintro e w' ⟨rfl, rfl⟩))
            go_ret
            exact ⟨rfl, rfl⟩
          | false =>
            obtain rfl : b = true := by rw [hb3, hk]; rfl
            have hkc : Calls Tryz.prog 116 #[.string s] w fun e w' => e = .returned (.bool false) ∧ w = w' := by rw [← hk]; exact isKey_any s w HS.out
            have HKC := Lib.hid hkc
            subst he2
            clear hb3 hk hkc hall HB2 HA HQ
            go_enter Tryz.func85, Tryz.ntmps85
            go_wp2_with (first | (go_at_call 114; refine HC.out.mono ?_; rintro e w' ⟨rfl, rfl⟩) | (go_at_call 115; refine HW.out.mono ?_; rintro e w' ⟨rfl, rfl⟩) | (go_at_call 116; refine HKC.out.mono ?_; rintro e w' ⟨rfl, rfl⟩))
            go_ret
            exact ⟨rfl, rfl⟩
        · have hall : s.data.toList.all wchB = false := by
            cases hx : s.data.toList.all wchB with
            | false => rfl
            | true => exact absurd (HA.out.2 hx) he2
          obtain rfl : b = false := by rw [HB2.out, hall]; simp
          have hn : ((q : Int) == (s.size : Int)) = false := beq_eq_false_iff_ne.2 (by omega)
          have hn2 : (q == s.size) = false := beq_eq_false_iff_ne.2 he2
          clear hall HB2 HA HQ he2
          go_enter Tryz.func85, Tryz.ntmps85
          go_wp2_with (first | (go_at_call 114; refine HC.out.mono ?_; rintro e w' ⟨rfl, rfl⟩) | (go_at_call 115; refine HW.out.mono ?_; rintro e w' ⟨rfl, rfl⟩))
          go_ret
          exact ⟨rfl, rfl⟩

end Go.Proofs.YtkahbhfbgdbnfaaGreatDoor

/-
  CONTRACT: num.Parse at every text: its number and its error; of what was there nothing has turned. Condition: strconv.ErrRange lies as the program's text lays it.
-/
namespace Go.Proofs.YtkahbhfbgdbnfaaGreatDoor
open Go.RowKit

def trimV (s : ByteArray) : ByteArray := ⟨(Lib.trimPrefix s.data.toList [45]).toArray⟩
def formB (s : ByteArray) : Bool := (s.data.toList == [48]) || plainB (trimV s).data.toList

theorem val_nil (acc : Nat) : val acc [] = acc := List.foldl_nil
theorem val_cons (acc : Nat) (c : UInt8) (r : List UInt8) : val acc (c :: r) = val (acc * 10 + (c.toNat - 48)) r := List.foldl_cons ..
theorem val_ge (l : List UInt8) : ∀ acc : Nat, acc ≤ val acc l := by
  induction l with
  | nil => intro acc; rw [val_nil]; exact Nat.le_refl _
  | cons c r ih =>
    intro acc
    have := ih (acc * 10 + (c.toNat - 48))
    rw [val_cons]
    omega
theorem val_snoc (l : List UInt8) (c : UInt8) : ∀ acc : Nat, val acc (l ++ [c]) = val acc l * 10 + (c.toNat - 48) := by
  induction l with
  | nil => intro acc; rw [List.nil_append, val_cons, val_nil, val_nil]
  | cons d r ih => intro acc; rw [List.cons_append, val_cons, val_cons, ih]
theorem val_bound (l : List UInt8) : ∀ acc : Nat, l.all digB = true → val acc l < (acc + 1) * 10 ^ l.length := by
  induction l with
  | nil => intro acc _; rw [val_nil]; simp
  | cons c r ih =>
    intro acc h
    simp only [List.all_cons, Bool.and_eq_true] at h
    have hd : 48 ≤ c.toNat ∧ c.toNat ≤ 57 := by simpa [digB] using h.1
    have := ih (acc * 10 + (c.toNat - 48)) h.2
    rw [val_cons, List.length_cons, Nat.pow_succ]
    refine Nat.lt_of_lt_of_le this ?_
    rw [Nat.mul_comm (10 ^ r.length) 10, ← Nat.mul_assoc]
    exact Nat.mul_le_mul_right _ (by omega)

theorem parse_val (l : List UInt8) : ∀ acc : Nat, acc < 18446744073709551616 → l.all digB = true →
    Lib.parseUint10 acc l = if val acc l < 18446744073709551616 then .ok (val acc l) else .range := by
  induction l with
  | nil => intro acc h _; rw [Lib.parseUint10, val_nil, if_pos h]
  | cons c r ih =>
    intro acc h ha
    simp only [List.all_cons, Bool.and_eq_true] at ha
    have hd : 48 ≤ c.toNat ∧ c.toNat ≤ 57 := by simpa [digB] using ha.1
    have hg := val_ge r (acc * 10 + (c.toNat - 48))
    rw [Lib.parseUint10, val_cons, if_pos hd]
    by_cases h1 : 1844674407370955162 ≤ acc
    · rw [if_pos h1, if_neg (by omega)]
    · rw [if_neg h1]
      by_cases h2 : 18446744073709551616 ≤ acc * 10 + (c.toNat - 48)
      · rw [if_pos h2, if_neg (by omega)]
      · rw [if_neg h2]
        exact ih _ (by omega) ha.2

theorem plain_ne {l : List UInt8} (h : plainB l = true) : l ≠ [] := by
  intro e; subst e; simp [plainB] at h
theorem plain_all {l : List UInt8} (h : plainB l = true) : l.all digB = true := by
  unfold plainB at h; simp only [Bool.and_eq_true] at h; exact h.2
theorem mag_val {l : List UInt8} (h : plainB l = true) : Lib.parseMag l = if val 0 l < 18446744073709551616 then .ok (val 0 l) else .range := by
  unfold Lib.parseMag
  rw [if_neg (plain_ne h), parse_val l 0 (by omega) (plain_all h)]

/-- What Atoi says of digits without a sign. -/
theorem atoi_plain {l : List UInt8} (h : plainB l = true) : Lib.atoiAll l = if val 0 l < 9223372036854775808 then .ok (val 0 l : Int) else .range := by
  have hm := mag_val h
  have ha := plain_all h
  cases l with
  | nil => exact absurd rfl (plain_ne h)
  | cons c r =>
    simp only [List.all_cons, Bool.and_eq_true] at ha
    have hd : 48 ≤ c.toNat ∧ c.toNat ≤ 57 := by simpa [digB] using ha.1
    rw [Lib.atoiAll_plain c r (by omega) (by omega), hm]
    generalize val 0 (c :: r) = u
    by_cases h1 : u < 18446744073709551616
    · rw [if_pos h1]
      by_cases h2 : u < 9223372036854775808
      · rw [if_pos h2]; simp only [Lib.signless]; rw [if_neg (by omega)]
      · rw [if_neg h2]; simp only [Lib.signless]; rw [if_pos (by omega)]
    · rw [if_neg h1, if_neg (by omega)]; rfl
/-- What Atoi says of digits behind a -. -/
theorem atoi_minus {l : List UInt8} (h : plainB l = true) : Lib.atoiAll (45 :: l) = if val 0 l ≤ 9223372036854775808 then .ok (-(val 0 l : Int)) else .range := by
  rw [Lib.atoiAll_minus, mag_val h]
  generalize val 0 l = u
  by_cases h1 : u < 18446744073709551616
  · rw [if_pos h1]
    by_cases h2 : u ≤ 9223372036854775808
    · rw [if_pos h2]; simp only [Lib.signed]; rw [if_neg (by omega)]
    · rw [if_neg h2]; simp only [Lib.signed]; rw [if_pos (by omega)]
  · rw [if_neg h1, if_neg (by omega)]; rfl
theorem atoi_zero : Lib.atoiAll [48] = .ok 0 := by decide

theorem trim_plain {l : List UInt8} (h : plainB l = true) : Lib.trimPrefix l [45] = l := by
  have ha := plain_all h
  cases l with
  | nil => rfl
  | cons c r =>
    simp only [List.all_cons, Bool.and_eq_true] at ha
    have hd : 48 ≤ c.toNat ∧ c.toNat ≤ 57 := by simpa [digB] using ha.1
    have hc : ¬ (45 : UInt8) = c := by
      intro e; rw [← e] at hd; exact absurd hd.1 (by decide)
    unfold Lib.trimPrefix Lib.hasPrefix
    simp [hc]
theorem trim_minus (l : List UInt8) : Lib.trimPrefix (45 :: l) [45] = l := by
  unfold Lib.trimPrefix Lib.hasPrefix
  simp

theorem trim_any (s d : ByteArray) (H : Hid (trimV s = d)) (w : World) : Calls Tryz.prog 194 #[.string s, .string ⟨#[45]⟩] w fun e w' => e = .returned (.string d) ∧ w = w' := by
  refine (Tryz.strings_TrimPrefix s ⟨#[45]⟩ w).mono ?_
  rintro e w' ⟨rfl, rfl⟩
  exact ⟨ret_str H.out, rfl⟩

theorem all_snoc (l : List UInt8) (k : Nat) (h : k < l.length) : (l.take (k + 1)).all digB = ((l.take k).all digB && digB l[k]) := by
  rw [List.take_succ_eq_append_getElem h, List.all_append]; simp

set_option maxRecDepth 100000 in
set_option maxHeartbeats 400000 in
theorem isForm_core (s d : ByteArray) (w : World) (hT : Hid (trimV s = d)) (hs : (s.toList == [48]) = false) (hm : d.size ≤ maxLen) :
    Calls Tryz.prog 176 #[.string s] w fun e w' => e = .returned (.bool (plainB d.data.toList)) ∧ w = w' := by
  obtain ⟨b, hb⟩ : ∃ b, b = plainB d.data.toList := ⟨_, rfl⟩
  rw [← hb]
  have HB := Lib.hid hb
  clear hb
  unfold maxLen at hm
  have hdl : d.toList = d.data.toList := ByteArray.toList_eq d
  have HDL := Lib.hid hdl
  have hsz : d.data.toList.length = d.size := Array.length_toList
  have HSZ := Lib.hid hsz
  clear hdl hsz
  by_cases h0 : d.size = 0
  · have he : d.data.toList = [] := List.length_eq_zero_iff.1 (HSZ.out.trans h0)
    have hE : d = ⟨#[]⟩ := Go.WideShapes.bytes_inj he
    subst hE
    obtain rfl : b = false := by rw [HB.out]; rfl
    clear h0 he HB hm HDL HSZ
    go_enter Tryz.func176, Tryz.ntmps176
    go_wp2_with (go_at_call 194; refine (trim_any _ _ hT _).mono ?_; rintro e w' ⟨rfl, rfl⟩)
    go_ret
    exact ⟨rfl, rfl⟩
  · have hp : 0 < d.size := by omega
    have hne : d.toList.isEmpty = false := by
      rw [HDL.out]; cases hl : d.data.toList with
      | nil => have := HSZ.out; rw [hl] at this; simp at this; omega
      | cons => rfl
    have hh : d.data.toList.headD 48 = d[0] := by
      rw [List.headD_eq_head?_getD, List.head?_eq_getElem?, List.getElem?_eq_getElem (by rw [HSZ.out]; exact hp)]; rfl
    by_cases hz : d[0] = 48
    · have hz1 : ((d[0].toNat : Int) == 48) = true := by rw [hz]; rfl
      obtain rfl : b = false := by rw [HB.out]; unfold plainB; rw [hh, hz]; simp
      clear hz hh HB h0
      go_enter Tryz.func176, Tryz.ntmps176
      go_wp2_with (go_at_call 194; refine (trim_any _ _ hT _).mono ?_; rintro e w' ⟨rfl, rfl⟩)
      go_ret
      exact ⟨rfl, rfl⟩
    · have hz1 : ((d[0].toNat : Int) == 48) = false := by
        simp; intro e; apply hz; exact UInt8.toNat_inj.1 (by simpa using (by omega : d[0].toNat = 48))
      have hv : b = d.data.toList.all digB := by
        rw [HB.out]; unfold plainB; rw [hh]
        have : d.data.toList.isEmpty = false := by rw [← HDL.out]; exact hne
        simp [this, hz]
      have HV := Lib.hid hv
      clear hz hh HB h0 hv
      go_enter Tryz.func176, Tryz.ntmps176
      go_wp2_with (go_at_call 194; refine (trim_any _ _ hT _).mono ?_; rintro e w' ⟨rfl, rfl⟩)
      go_loop [18] (fun i => ∃ k : Nat, k ≤ d.size ∧ i = .int .i64 k ∧ Hid ((d.data.toList.take k).all digB = true)) (fun i => d.size - (intOf i).toNat)
      case atStart => exact ⟨0, Nat.zero_le _, rfl, rfl⟩
      case round =>
        obtain ⟨k, hk, rfl, HK⟩ := hrel
        by_cases hlt : k < d.size
        · have hg : d.data.toList[k]'(by rw [HSZ.out]; exact hlt) = d[k] := rfl
          have hsn := all_snoc d.data.toList k (by rw [HSZ.out]; exact hlt)
          rw [hg, HK.out, Bool.true_and] at hsn
          by_cases hd : digB d[k] = true
          · have hk1 : (d.data.toList.take (k + 1)).all digB = true := by rw [hsn]; exact hd
            have HK1 := Lib.hid hk1
            have hd1 : 48 ≤ d[k].toNat ∧ d[k].toNat ≤ 57 := by simpa [digB] using hd
            have l1 : ¬ (d[k].toNat : Int) < 48 := by omega
            have l2 : ¬ 57 < (d[k].toNat : Int) := by omega
            clear hg hsn hd hk1 hd1
            go_wp2
            go_round
            case rel => exact ⟨k + 1, by omega, by go_num, HK1⟩
            case measure => simp [intOf]; omega
          · have hf : b = false := by
              rw [HV.out, ← List.take_append_drop (k + 1) d.data.toList, List.all_append, hsn]
              simp [hd]
            subst hf
            have hd1 : d[k].toNat < 48 ∨ 57 < d[k].toNat := by
              have : ¬ (48 ≤ d[k].toNat ∧ d[k].toNat ≤ 57) := by simpa [digB] using hd
              omega
            rcases hd1 with hd1 | hd1
            · have l1 : (d[k].toNat : Int) < 48 := by omega
              clear hg hsn hd hd1
              go_wp2
              go_ret
              exact ⟨rfl, rfl⟩
            · have l1 : ¬ (d[k].toNat : Int) < 48 := by omega
              have l2 : 57 < (d[k].toNat : Int) := by omega
              clear hg hsn hd hd1
              go_wp2
              go_ret
              exact ⟨rfl, rfl⟩
        · have hf : b = true := by
            rw [HV.out]; have := HK.out; rwa [List.take_of_length_le (by rw [HSZ.out]; omega)] at this
          subst hf
          go_wp2
          go_ret
          exact ⟨rfl, rfl⟩

theorem trim_size (s : ByteArray) : (trimV s).size ≤ s.size := by
  have h1 : (trimV s).size = (Lib.trimPrefix s.data.toList [45]).length := List.size_toArray
  have h2 := Lib.trimPrefix_le s.data.toList [45]
  have h3 : s.data.toList.length = s.size := Array.length_toList
  omega

set_option maxRecDepth 100000 in
set_option maxHeartbeats 400000 in
theorem isForm_any (s : ByteArray) (w : World) (hm : s.size ≤ maxLen) : Calls Tryz.prog 176 #[.string s] w fun e w' => e = .returned (.bool (formB s)) ∧ w = w' := by
  have e1 := ByteArray.toList_eq s
  by_cases h : (s.toList == [48]) = true
  · have hv : formB s = true := by unfold formB; rw [← e1, h]; rfl
    rw [hv]
    clear hv e1
    go_enter Tryz.func176, Tryz.ntmps176
    go_wp2
    go_ret
    exact ⟨rfl, rfl⟩
  · have h' : (s.toList == [48]) = false := by simpa using h
    have hv : formB s = plainB (trimV s).data.toList := by unfold formB; rw [← e1, h']; rfl
    rw [hv]
    exact isForm_core s (trimV s) w (Lib.hid rfl) h' (Nat.le_trans (trim_size s) hm)

/-- The number of a text, and its error. -/
def specP (s : ByteArray) : Int × Int :=
  if formB s = true then
    (if (trimV s).size < s.size then (if val 0 (trimV s).data.toList ≤ 9223372036854775808 then (-(val 0 (trimV s).data.toList : Int), 0) else (0, 2))
     else (if val 0 (trimV s).data.toList < 9223372036854775808 then ((val 0 (trimV s).data.toList : Int), 0) else (0, 2)))
  else (0, 1)

theorem spec_no {s : ByteArray} (h : formB s = false) : specP s = (0, 1) := by
  unfold specP; rw [if_neg (by rw [h]; decide)]
theorem spec_neg {s : ByteArray} (h : formB s = true) (hl : (trimV s).size < s.size) :
    specP s = if val 0 (trimV s).data.toList ≤ 9223372036854775808 then (-(val 0 (trimV s).data.toList : Int), 0) else (0, 2) := by
  unfold specP; rw [if_pos h, if_pos hl]
theorem spec_pos {s : ByteArray} (h : formB s = true) (hl : ¬ (trimV s).size < s.size) :
    specP s = if val 0 (trimV s).data.toList < 9223372036854775808 then ((val 0 (trimV s).data.toList : Int), 0) else (0, 2) := by
  unfold specP; rw [if_pos h, if_neg hl]

theorem trim_neg (s d : ByteArray) (h : 0 < s.size) (h45 : s[0] = 45) (hd : s.extract 1 s.size = d) : trimV s = d ∧ d.size + 1 = s.size := by
  obtain ⟨r, hr⟩ := head_at s h
  have he : d.data.toList = r := by
    rw [← hd, ByteArray.data_extract]
    rw [Array.toList_extract, List.extract_eq_take_drop, hr]
    have : r.length + 1 = s.size := by rw [← len_size s, hr]; rfl
    rw [List.drop_one, List.tail_cons, List.take_of_length_le (by omega)]
  have ht : (trimV s).data.toList = r := by
    show (Lib.trimPrefix s.data.toList [45]) = r
    rw [hr, h45, trim_minus]
  refine ⟨Go.WideShapes.bytes_inj (by rw [he, ht]), ?_⟩
  rw [← len_size d, ← len_size s, he, hr]; rfl
theorem trim_pos (s : ByteArray) (h : s.size = 0 ∨ ∃ h : 0 < s.size, s[0] ≠ 45) : trimV s = s := by
  refine Go.WideShapes.bytes_inj ?_
  show Lib.trimPrefix s.data.toList [45] = s.data.toList
  rcases h with h | ⟨h, h45⟩
  · have : s.data.toList = [] := List.length_eq_zero_iff.1 ((len_size s).trans h)
    rw [this]; rfl
  · obtain ⟨r, hr⟩ := head_at s h
    rw [hr]
    unfold Lib.trimPrefix Lib.hasPrefix
    have : ¬ (45 : UInt8) = s[0] := fun e => h45 e.symm
    simp [this]

theorem form_empty {s d : ByteArray} (hd : trimV s = d) (h : d.size = 0) (hs : (s.toList == [48]) = false) : formB s = false := by
  unfold formB
  rw [← ByteArray.toList_eq, hs, hd]
  have : d.data.toList = [] := List.length_eq_zero_iff.1 ((len_size d).trans h)
  rw [this]; rfl
theorem form_zero {s d : ByteArray} (hd : trimV s = d) (h : 0 < d.size) (h48 : d[0] = 48) (hs : (s.toList == [48]) = false) : formB s = false := by
  unfold formB
  rw [← ByteArray.toList_eq, hs, hd]
  obtain ⟨r, hr⟩ := head_at d h
  rw [hr, h48]; simp [plainB]
theorem form_all {s d : ByteArray} (hd : trimV s = d) (h : 0 < d.size) (h48 : d[0] ≠ 48) (hs : (s.toList == [48]) = false) : formB s = d.data.toList.all digB := by
  unfold formB
  rw [← ByteArray.toList_eq, hs, hd]
  obtain ⟨r, hr⟩ := head_at d h
  rw [hr]; simp [plainB, h48]
set_option maxRecDepth 100000 in
set_option maxHeartbeats 400000 in
theorem parse_ok (s : ByteArray) (v : Int) (w : World) (hlim : s.size ≤ 281474976710656) (hf : formB s = true) (h : Lib.atoiAll s.data.toList = .ok v) :
    Calls Tryz.prog 161 #[.string s] w fun e w' => e = .returned (.tuple #[.int .i64 v, .int .i64 0]) ∧ Below w.heap.size w w' := by
  have hc : Calls Tryz.prog 177 #[.string s] w fun e w' => e = .returned (.tuple #[.int .i64 v, .nilIface]) ∧ Below w.heap.size w w' := by
    refine (Tryz.strconv_Atoi_ok s (by omega) v h w).mono ?_
    rintro e w' ⟨rfl, rfl | ⟨t, rfl⟩⟩
    · exact ⟨rfl, Below.refl _ _⟩
    · exact ⟨rfl, Lib.bytesWorld_below _ _ _⟩
  have hi : Calls Tryz.prog 176 #[.string s] w fun e w' => e = .returned (.bool true) ∧ w = w' := by
    rw [← hf]
    exact isForm_any s w (by unfold maxLen; omega)
  have HC := Lib.hid hc
  have HI := Lib.hid hi
  clear hc hi h hf hlim
  go_enter Tryz.func161, Tryz.ntmps161
  go_wp2_with (first | (go_at_call 176; refine HI.out.mono ?_; rintro e w' ⟨rfl, rfl⟩) | (go_at_call 177; refine HC.out.mono ?_; rintro e w' ⟨rfl, hb⟩))
  go_ret2
  exact ⟨rfl, hb⟩

/-- What Atoi says of a text that is right in form is what is specified. -/
theorem parse_spec (s : ByteArray) (h : formB s = true) : (∃ v, Lib.atoiAll s.data.toList = .ok v ∧ specP s = (v, 0)) ∨ (Lib.atoiAll s.data.toList = .range ∧ specP s = (0, 2)) := by
  by_cases h0 : s.size = 0
  · have hE : s = ⟨#[]⟩ := Go.WideShapes.bytes_inj (List.length_eq_zero_iff.1 ((len_size s).trans h0))
    subst hE
    exact absurd h (by decide)
  · have hp : 0 < s.size := by omega
    obtain ⟨r, hr⟩ := head_at s hp
    by_cases h45 : s[0] = 45
    · obtain ⟨ht, hds⟩ := trim_neg s _ hp h45 rfl
      have hd : (trimV s).data.toList = r := by
        show Lib.trimPrefix s.data.toList [45] = r
        rw [hr, h45, trim_minus]
      have hpl : plainB r = true := by
        unfold formB at h
        rw [hd, hr, h45] at h
        simpa using h
      have hlt : (trimV s).size < s.size := by rw [ht]; omega
      rw [spec_neg h hlt, hd, hr, h45, atoi_minus hpl]
      by_cases hv : val 0 r ≤ 9223372036854775808
      · rw [if_pos hv, if_pos hv]; exact Or.inl ⟨_, rfl, rfl⟩
      · rw [if_neg hv, if_neg hv]; exact Or.inr ⟨rfl, rfl⟩
    · have ht := trim_pos s (Or.inr ⟨hp, h45⟩)
      rw [spec_pos h (by rw [ht]; omega), ht]
      by_cases hz : s.data.toList = [48]
      · rw [hz, atoi_zero]
        exact Or.inl ⟨0, rfl, by decide⟩
      · have hpl : plainB s.data.toList = true := by
          unfold formB at h
          rw [ht] at h
          simpa [hz] using h
        rw [atoi_plain hpl]
        by_cases hv : val 0 s.data.toList < 9223372036854775808
        · rw [if_pos hv, if_pos hv]; exact Or.inl ⟨_, rfl, rfl⟩
        · rw [if_neg hv, if_neg hv]; exact Or.inr ⟨rfl, rfl⟩

set_option maxRecDepth 100000 in
set_option maxHeartbeats 400000 in
theorem parse_any (s : ByteArray) (p : Int × Int) (w : World) (G : ∃ tp p, w.var? Tryz.prog "strconv.ErrRange" = some #[.iface tp p]) (hlim : s.size ≤ 281474976710656) (hp : Hid (specP s = p)) :
    Calls Tryz.prog 161 #[.string s] w fun e w' => e = .returned (.tuple #[.int .i64 p.1, .int .i64 p.2]) ∧ Below w.heap.size w w' := by
  by_cases hf : formB s = true
  · rcases parse_spec s hf with ⟨v, hv, hs⟩ | ⟨hv, hs⟩
    · have hpv := hp.out
      rw [hs] at hpv
      subst hpv
      exact parse_ok s v w hlim hf hv
    · have hpv := hp.out
      rw [hs] at hpv
      subst hpv
      obtain ⟨tp, q, hvar⟩ := G
      have hc := Tryz.strconv_Atoi_range_var s hlim hv tp q w hvar
      have hi : Calls Tryz.prog 176 #[.string s] w fun e w' => e = .returned (.bool true) ∧ w = w' := by
        rw [← hf]
        exact isForm_any s w (by unfold maxLen; omega)
      have HC := Lib.hid hc
      have HI := Lib.hid hi
      clear hc hi hv hf hlim hvar hs hp
      go_enter Tryz.func161, Tryz.ntmps161
      go_wp2_with (first | (go_at_call 176; refine HI.out.mono ?_; rintro e w' ⟨rfl, rfl⟩) | (go_at_call 177; refine HC.out.mono ?_; rintro e w' ⟨K, rfl, _, _, hb⟩))
      go_ret2
      exact ⟨rfl, hb⟩
  · have hf' : formB s = false := by simpa using hf
    have hpv := hp.out
    rw [spec_no hf'] at hpv
    subst hpv
    have hi : Calls Tryz.prog 176 #[.string s] w fun e w' => e = .returned (.bool false) ∧ w = w' := by
      rw [← hf']
      exact isForm_any s w (by unfold maxLen; omega)
    have HI := Lib.hid hi
    clear hi hf hf' hlim hp G
    go_enter Tryz.func161, Tryz.ntmps161
    go_wp2_with (go_at_call 176; refine HI.out.mono ?_; rintro e w' ⟨rfl, rfl⟩)
    go_ret2
    exact ⟨rfl, Below.refl _ _⟩

end Go.Proofs.YtkahbhfbgdbnfaaGreatDoor

/-
  CONTRACTS: wordAt, numberAt, signAt, tokenAt at every text of at most 2^48 bytes and every place in it, where the tables lie as the program's text lays them; of what was there nothing has turned.
-/
namespace Go.Proofs.YtkahbhfbgdbnfaaGreatDoor
open Go.RowKit

theorem KeysIn.below {w w' : World} {B : Nat} (h : KeysIn w) (hb : Below B w w') (hB : 1 < B) : KeysIn w' := by
  obtain ⟨t, fr, hg⟩ := h
  exact ⟨t, fr, (hb.block 0 (by omega)).trans hg⟩
theorem KeysIn.alloc {w : World} (h : KeysIn w) (o : Obj) : KeysIn (w.alloc o) := by
  obtain ⟨t, fr, hg⟩ := h
  exact ⟨t, fr, (Below.heap_alloc w o 0 (Array.getElem?_eq_some_iff.1 hg).1).trans hg⟩
theorem LongsIn.below {w w' : World} {B : Nat} (h : LongsIn w) (hb : Below B w w') (hB : 1 < B) : LongsIn w' := by
  obtain ⟨t, fr, hg⟩ := h
  exact ⟨t, fr, (hb.block 1 (by omega)).trans hg⟩
theorem LongsIn.alloc {w : World} (h : LongsIn w) (o : Obj) : LongsIn (w.alloc o) := by
  obtain ⟨t, fr, hg⟩ := h
  exact ⟨t, fr, (Below.heap_alloc w o 1 (Array.getElem?_eq_some_iff.1 hg).1).trans hg⟩
theorem isKey_to (s : ByteArray) (b : Bool) (w : World) (hK : KeysIn w) (hb : Hid (keyB s.data.toList = b)) : Calls Tryz.prog 116 #[.string s] w fun e w' => e = .returned (.bool b) ∧ w = w' := by
  rw [← hb.out]; exact isKey_any s w hK

/-- A token and an error. -/
def tkV (kd : Int) (t : ByteArray) (p e : Int) : Value := .tuple #[.agg #[.int .i64 kd, .string t, .int .i64 p], .int .i64 e]
def tkOf (s : ByteArray) (k : Nat) (t : Tk) : Value := if t.err = 0 then tkV t.kind (s.extract k (k + t.len)) k 0 else tkV 0 ⟨#[]⟩ 0 t.err

theorem word_at (l : List UInt8) (k : Nat) (q : Nat) (hq : endAt wchB l k = q) : wordT (l.drop k) = if 12 < q - k then ⟨4, 0, 0⟩ else if keyB ((l.drop k).take (q - k)) then ⟨0, 2, q - k⟩ else ⟨0, 1, q - k⟩ := by
  have : runN wchB (l.drop k) = q - k := by rw [← hq, endAt]; omega
  unfold wordT; rw [this]

set_option maxRecDepth 100000 in
set_option maxHeartbeats 400000 in
theorem wordAt_any (s : ByteArray) (k : Nat) (r : Value) (w : World) (hs : s.size ≤ 281474976710656) (hk : k < s.size) (hK : KeysIn w) (hr : Hid (tkOf s k (wordT (s.data.toList.drop k)) = r)) :
    Calls Tryz.prog 122 #[.string s, .int .i64 k] w fun e w' => e = .returned r ∧ Below w.heap.size w w' := by
  have HK := Lib.hid hK
  clear hK
  obtain ⟨q, hq⟩ : ∃ q, endAt wchB s.data.toList k = q := ⟨_, rfl⟩
  have h1 := le_endAt wchB s.data.toList k
  have h2 : endAt wchB s.data.toList k ≤ s.size := by rw [← len_size]; exact endAt_le (by rw [len_size]; omega)
  have h3 := word_at s.data.toList k q hq
  rw [hq] at h1 h2
  have HQ := Lib.hid hq
  have H3 := Lib.hid h3
  clear hq h3
  have hx : (s.extract k q).data.toList = (s.data.toList.drop k).take (q - k) := cut_extract s k q
  have hxs : (s.extract k q).size = q - k := by rw [← len_size, hx, List.length_take, List.length_drop, len_size]; omega
  obtain ⟨x, hX⟩ : ∃ x, s.extract k q = x := ⟨_, rfl⟩
  have hX2 : ∀ w, (Instr.slice 9 (.string s) (some (.int .i64 k)) (some (.int .i64 q)) none).run Tryz.prog w = .ok (.string x) w := fun w => by
    rw [run_slice_string (P := Tryz.prog) w 9 s .i64 .i64 k q Tryz.underlying9 (by omega) (by omega) (by omega), ← hX]; rfl
  rw [hX] at hx hxs
  have HX := Lib.hid hX
  have HX1 := Lib.hid hx
  clear hX hx
  by_cases h12 : 12 < x.size
  · have hi : (12 : Int) < (x.size : Int) := by omega
    have HR : Hid (tkV 0 ⟨#[]⟩ 0 4 = r) := by
      show _ = _
      rw [← hr.out, H3.out, if_pos (by omega)]; rfl
    have := HR.out
    subst this
    clear hxs
    go_enter Tryz.func122, Tryz.ntmps122
    go_wp2_with (go_at_call 115; refine (wordEnd_any s k q _ hs (by omega) HQ).mono ?_; rintro e w' ⟨rfl, rfl⟩)
    exact bodyPost_ret (v := tkV 0 ⟨#[]⟩ 0 4) (by simp [results, Tryz.results122, go_sem, tkV]) rfl ⟨rfl, (Below.refl _ _).alloc (Nat.le_refl _) _⟩
  · have hi : ¬ (12 : Int) < (x.size : Int) := by omega
    cases hky : keyB x.data.toList with
    | true =>
      have HR : Hid (tkV 2 x k 0 = r) := by
        show _ = _
        rw [← hr.out, H3.out, if_neg (by omega), if_pos (by rw [← HX1.out]; exact hky)]
        show _ = tkV 2 (s.extract k (k + (q - k))) k 0
        rw [show k + (q - k) = q by omega, HX.out]
      have HKY := Lib.hid hky
      have := HR.out
      subst this
      clear hxs hky
      go_enter Tryz.func122, Tryz.ntmps122
      go_wp2_with (first | (go_at_call 115; refine (wordEnd_any s k q _ hs (by omega) HQ).mono ?_; rintro e w' ⟨rfl, rfl⟩) | (go_at_call 116; refine (isKey_to _ true _ (by exact HK.out.alloc _) HKY).mono ?_; rintro e w' ⟨rfl, rfl⟩))
      exact bodyPost_ret (v := tkV 2 x k 0) (by simp [results, Tryz.results122, go_sem, tkV]) rfl ⟨rfl, (Below.refl _ _).alloc (Nat.le_refl _) _⟩
    | false =>
      have HR : Hid (tkV 1 x k 0 = r) := by
        show _ = _
        rw [← hr.out, H3.out, if_neg (by omega), if_neg (by rw [← HX1.out, hky]; decide)]
        show _ = tkV 1 (s.extract k (k + (q - k))) k 0
        rw [show k + (q - k) = q by omega, HX.out]
      have HKY := Lib.hid hky
      have := HR.out
      subst this
      clear hxs hky
      go_enter Tryz.func122, Tryz.ntmps122
      go_wp2_with (first | (go_at_call 115; refine (wordEnd_any s k q _ hs (by omega) HQ).mono ?_; rintro e w' ⟨rfl, rfl⟩) | (go_at_call 116; refine (isKey_to _ false _ (by exact HK.out.alloc _) HKY).mono ?_; rintro e w' ⟨rfl, rfl⟩))
      exact bodyPost_ret (v := tkV 1 x k 0) (by simp [results, Tryz.results122, go_sem, tkV]) rfl ⟨rfl, (Below.refl _ _).alloc (Nat.le_refl _) _⟩

theorem run_take_all (f : UInt8 → Bool) (l : List UInt8) : (l.take (runN f l)).all f = true := by
  induction l with
  | nil => rfl
  | cons c r ih =>
    cases h : f c with
    | true => rw [runN_pos r h, List.take_succ_cons, List.all_cons, h, ih]; rfl
    | false => rw [runN_zero r h]; rfl
theorem num_at (l : List UInt8) (k q : Nat) (hq : endAt digB l k = q) :
    numT (l.drop k) = (if afterB (l.drop q) then ⟨1, 0, 0⟩ else if parE ((l.drop k).take (q - k)) = 0 then ⟨0, 3, q - k⟩ else ⟨parE ((l.drop k).take (q - k)), 0, 0⟩) ∧ ((l.drop k).take (q - k)).all digB = true := by
  have h1 : runN digB (l.drop k) = q - k := by rw [← hq, endAt]; omega
  have h2 := run_take_all digB (l.drop k)
  have h3 : k ≤ q := by rw [← hq]; exact le_endAt _ _ _
  unfold numT
  rw [h1] at h2 ⊢
  rw [List.drop_drop, show k + (q - k) = q by omega]
  exact ⟨rfl, h2⟩
theorem spec_par (x : ByteArray) (h : 0 < x.size) (ha : x.data.toList.all digB = true) : (specP x).2 = (parE x.data.toList : Int) := by
  obtain ⟨r, hr⟩ := head_at x h
  have hd : digB x[0] = true := by
    rw [hr, List.all_cons, Bool.and_eq_true] at ha; exact ha.1
  have h45 : x[0] ≠ 45 := by intro e; rw [e] at hd; exact absurd hd (by decide)
  have ht := trim_pos x (Or.inr ⟨h, h45⟩)
  unfold parE
  by_cases hf : formB x = true
  · have hf2 := hf
    unfold formB at hf2
    rw [ht] at hf2
    rw [if_pos hf2, spec_pos hf (by rw [ht]; omega), ht]
    by_cases hv : val 0 x.data.toList < 9223372036854775808
    · rw [if_pos hv, if_pos hv]; rfl
    · rw [if_neg hv, if_neg hv]; rfl
  · have hf1 : formB x = false := by simpa using hf
    have hf2 := hf1
    unfold formB at hf2
    rw [ht] at hf2
    rw [hf2, spec_no hf1]; rfl
theorem par_le (l : List UInt8) : parE l = 0 ∨ parE l = 1 ∨ parE l = 2 := by
  unfold parE; split
  · split
    · exact Or.inl rfl
    · exact Or.inr (Or.inr rfl)
  · exact Or.inr (Or.inl rfl)
theorem after_drop (s : ByteArray) (q : Nat) (h : q < s.size) : afterB (s.data.toList.drop q) = letB s[q] := by
  rw [List.drop_eq_getElem_cons (by rw [len_size]; exact h)]; rfl
theorem after_end (s : ByteArray) (q : Nat) (h : s.size ≤ q) : afterB (s.data.toList.drop q) = false := by
  rw [List.drop_of_length_le (by rw [len_size]; exact h)]; rfl
theorem isDigit_to (c : UInt8) (b : Bool) (w : World) (h : Hid (digB c = b)) : Calls Tryz.prog 123 #[.int .u8 c.toNat] w fun e w' => e = .returned (.bool b) ∧ w = w' := by rw [← h.out]; exact isDigit_any c w
theorem isLetter_to (c : UInt8) (b : Bool) (w : World) (h : Hid (letB c = b)) : Calls Tryz.prog 114 #[.int .u8 c.toNat] w fun e w' => e = .returned (.bool b) ∧ w = w' := by rw [← h.out]; exact isLetter_any c w
abbrev RngIn (w : World) : Prop := ∃ tp p, w.var? Tryz.prog "strconv.ErrRange" = some #[.iface tp p]
theorem gRange : Tryz.prog.globalNamed "strconv.ErrRange" = some 5 := by kernel_rfl
theorem rng_below {w w' : World} {B : Nat} (h : RngIn w) (hb : Below B w w') (hB : 5 < B) : RngIn w' := by
  obtain ⟨tp, p, hv⟩ := h
  exact ⟨tp, p, var?_below hb gRange hB hv⟩

theorem slice_run (s : ByteArray) (k q : Nat) (h1 : k ≤ q) (h2 : q ≤ s.size) (w : World) : (Instr.slice 9 (.string s) (some (.int .i64 k)) (some (.int .i64 q)) none).run Tryz.prog w = .ok (.string (s.extract k q)) w := by
  rw [run_slice_string (P := Tryz.prog) w 9 s .i64 .i64 k q Tryz.underlying9 (by omega) (by omega) (by omega)]; rfl

theorem bcell {W w1 : World} (hb : Below W.heap.size W w1) : (∀ b o, b < W.heap.size → w1.cell? ⟨b, o, none⟩ = W.cell? ⟨b, o, none⟩) ∧ (∀ b o, b < W.heap.size → w1.frozen? ⟨b, o, none⟩ = W.frozen? ⟨b, o, none⟩) :=
  ⟨fun b o h => hb.cell (p := ⟨b, o, none⟩) h, fun b o h => hb.frozen (p := ⟨b, o, none⟩) h⟩

theorem below3 {w w1 : World} {o : Obj} (hb : Below (w.alloc o).heap.size (w.alloc o) w1) (u0 u1 u2 : Value) :
    Below w.heap.size w (((w1.setCell ⟨w.heap.size, 0, none⟩ u0).setCell ⟨w.heap.size, 1, none⟩ u1).setCell ⟨w.heap.size, 2, none⟩ u2) :=
  ((((((Below.refl _ w).alloc (Nat.le_refl _) o).trans (hb.mono (by simp))).setCell (Nat.le_refl _) u0).setCell (Nat.le_refl _) u1).setCell (Nat.le_refl _) u2)

set_option maxRecDepth 100000 in
set_option maxHeartbeats 400000 in
theorem numberAt_any (s : ByteArray) (k : Nat) (r : Value) (w : World) (hs : s.size ≤ 281474976710656) (hk : k < s.size) (h0 : Hid (digB s[k] = true)) (hG : RngIn w) (h4 : 5 < w.heap.size) (hr : Hid (tkOf s k (numT (s.data.toList.drop k)) = r)) :
    Calls Tryz.prog 124 #[.string s, .int .i64 k] w fun e w' => e = .returned r ∧ Below w.heap.size w w' := by
  obtain ⟨q, hq⟩ : ∃ q, endAt digB s.data.toList k = q := ⟨_, rfl⟩
  have h1 : k + 1 ≤ q := by rw [← hq, endS_step hk h0.out]; exact le_endAt _ _ _
  have h2 : q ≤ s.size := by rw [← hq, ← len_size]; exact endAt_le (by rw [len_size]; omega)
  obtain ⟨h3, hall⟩ := num_at s.data.toList k q hq
  have HQ := Lib.hid hq
  have H3 := Lib.hid h3
  have HG := Lib.hid hG
  clear hq h3 hG
  have hx : (s.extract k q).data.toList = (s.data.toList.drop k).take (q - k) := cut_extract s k q
  have hxs : (s.extract k q).size = q - k := by rw [← len_size, hx, List.length_take, List.length_drop, len_size]; omega
  have hX0 := slice_run s k q (by omega) h2
  obtain ⟨x, hX⟩ : ∃ x, s.extract k q = x := ⟨_, rfl⟩
  rw [hX] at hx hxs
  rw [← hx] at hall
  have hX2 : ∀ w, (Instr.slice 9 (.string s) (some (.int .i64 k)) (some (.int .i64 q)) none).run Tryz.prog w = .ok (.string x) w := fun w => by rw [← hX]; exact hX0 w
  clear hX0
  have hsp := spec_par x (by omega) hall
  obtain ⟨p, hp⟩ : ∃ p, specP x = p := ⟨_, rfl⟩
  rw [hp] at hsp
  have hpar := par_le x.data.toList
  obtain ⟨pe, hpe⟩ : ∃ pe, parE x.data.toList = pe := ⟨_, rfl⟩
  rw [hpe] at hsp hpar
  obtain ⟨p1, p2⟩ := p
  have hsp : p2 = (pe : Int) := hsp
  subst hsp
  have H3b : Hid (numT (s.data.toList.drop k) = if afterB (s.data.toList.drop q) then ⟨1, 0, 0⟩ else if pe = 0 then ⟨0, 3, q - k⟩ else ⟨pe, 0, 0⟩) := by
    show _ = _
    rw [H3.out, ← hx, hpe]
  have HP := Lib.hid hp
  have HX := Lib.hid hX
  have hxl : x.size ≤ 281474976710656 := by omega
  clear hX hx hpe hp H3 hall hxs
  go_enter Tryz.func124, Tryz.ntmps124
  go_wp2_with fail
  go_loop [6] (fun i => ∃ j : Nat, k ≤ j ∧ j ≤ s.size ∧ i = .int .i64 j ∧ Hid (endAt digB s.data.toList j = q)) (fun i => s.size - (intOf i).toNat)
  case atStart => exact ⟨k, Nat.le_refl _, by omega, rfl, HQ⟩
  case round =>
    obtain ⟨j, hj0, hj, rfl, HJ⟩ := hrel
    by_cases hlt : j < s.size
    · cases hd : digB s[j] with
      | true =>
        have HD := Lib.hid hd
        clear hd
        go_wp2_with (go_at_call 123; refine (isDigit_to _ true _ HD).mono ?_; rintro e w' ⟨rfl, rfl⟩)
        go_round
        case rel => exact ⟨j + 1, by omega, by omega, by go_num, (endS_step hlt HD.out).symm.trans HJ.out⟩
        case measure => simp [intOf]; omega
      | false =>
        have HD := Lib.hid hd
        have hjq : j = q := by rw [← HJ.out, endS_stop hlt hd]
        subst hjq
        clear hd HJ
        have ha := after_drop s j hlt
        cases hl : letB s[j] with
        | true =>
          have HL := Lib.hid hl
          have HR : Hid (tkV 0 ⟨#[]⟩ 0 1 = r) := by
            show _ = _
            rw [← hr.out, H3b.out, ha, hl]; rfl
          have := HR.out
          subst this
          clear hl ha
          go_wp2_with (first | (go_at_call 123; refine (isDigit_to _ false _ HD).mono ?_; rintro e w' ⟨rfl, rfl⟩) | (go_at_call 114; refine (isLetter_to _ true _ HL).mono ?_; rintro e w' ⟨rfl, rfl⟩))
          exact bodyPost_ret (v := tkV 0 ⟨#[]⟩ 0 1) (by simp [results, Tryz.results124, go_sem, tkV]) rfl ⟨rfl, (Below.refl _ _).alloc (Nat.le_refl _) _⟩
        | false =>
          have HL := Lib.hid hl
          have HR0 : Hid (tkOf s k (if pe = 0 then ⟨0, 3, j - k⟩ else ⟨pe, 0, 0⟩) = r) := by
            show _ = _
            rw [← hr.out, H3b.out, ha, hl]; rfl
          clear hl ha
          rcases hpar with rfl | rfl | rfl
          · have HR : Hid (tkV 3 x k 0 = r) := by
              show _ = _
              rw [← HR0.out, if_pos rfl]
              show _ = tkV 3 (s.extract k (k + (j - k))) k 0
              rw [show k + (j - k) = j by omega, HX.out]
            have := HR.out
            subst this
            go_wp2_with (first | (go_at_call 123; refine (isDigit_to _ false _ HD).mono ?_; rintro e w' ⟨rfl, rfl⟩) | (go_at_call 114; refine (isLetter_to _ false _ HL).mono ?_; rintro e w' ⟨rfl, rfl⟩))
            refine (parse_any x (p1, ((0 : Nat) : Int)) _ (rng_below HG.out ((Below.refl _ _).alloc (Nat.le_refl _) _) h4) hxl HP).mono ?_
            rintro e w1 ⟨rfl, hb⟩
            obtain ⟨hc, hf⟩ := bcell hb
            have hz : w.heap.size < w1.heap.size := by have := hb.size; simp at this; omega
            go_wp2_with fail
            exact bodyPost_ret (v := tkV 3 x k 0) (by simp [results, Tryz.results124, go_sem, tkV, hc]) rfl ⟨rfl, below3 hb _ _ _⟩
          · have HR : Hid (tkV 0 ⟨#[]⟩ 0 1 = r) := by
              show _ = _
              rw [← HR0.out, if_neg (by decide)]; rfl
            have := HR.out
            subst this
            go_wp2_with (first | (go_at_call 123; refine (isDigit_to _ false _ HD).mono ?_; rintro e w' ⟨rfl, rfl⟩) | (go_at_call 114; refine (isLetter_to _ false _ HL).mono ?_; rintro e w' ⟨rfl, rfl⟩))
            refine (parse_any x (p1, ((1 : Nat) : Int)) _ (rng_below HG.out ((Below.refl _ _).alloc (Nat.le_refl _) _) h4) hxl HP).mono ?_
            rintro e w1 ⟨rfl, hb⟩
            obtain ⟨hc, hf⟩ := bcell hb
            have hz : w.heap.size < w1.heap.size := by have := hb.size; simp at this; omega
            go_wp2_with fail
            exact bodyPost_ret (v := tkV 0 ⟨#[]⟩ 0 1) (by simp [results, Tryz.results124, go_sem, tkV, hc]) rfl ⟨rfl, below3 hb _ _ _⟩
          · have HR : Hid (tkV 0 ⟨#[]⟩ 0 2 = r) := by
              show _ = _
              rw [← HR0.out, if_neg (by decide)]; rfl
            have := HR.out
            subst this
            go_wp2_with (first | (go_at_call 123; refine (isDigit_to _ false _ HD).mono ?_; rintro e w' ⟨rfl, rfl⟩) | (go_at_call 114; refine (isLetter_to _ false _ HL).mono ?_; rintro e w' ⟨rfl, rfl⟩))
            refine (parse_any x (p1, ((2 : Nat) : Int)) _ (rng_below HG.out ((Below.refl _ _).alloc (Nat.le_refl _) _) h4) hxl HP).mono ?_
            rintro e w1 ⟨rfl, hb⟩
            obtain ⟨hc, hf⟩ := bcell hb
            have hz : w.heap.size < w1.heap.size := by have := hb.size; simp at this; omega
            go_wp2_with fail
            exact bodyPost_ret (v := tkV 0 ⟨#[]⟩ 0 2) (by simp [results, Tryz.results124, go_sem, tkV, hc]) rfl ⟨rfl, below3 hb _ _ _⟩
    · have hjq : j = q := by rw [← HJ.out, endAt_end (by rw [len_size]; omega)]
      subst hjq
      have ha := after_end s j (by omega)
      have HR0 : Hid (tkOf s k (if pe = 0 then ⟨0, 3, j - k⟩ else ⟨pe, 0, 0⟩) = r) := by
        show _ = _
        rw [← hr.out, H3b.out, ha]; rfl
      clear ha HJ
      rcases hpar with rfl | rfl | rfl
      · have HR : Hid (tkV 3 x k 0 = r) := by
          show _ = _
          rw [← HR0.out, if_pos rfl]
          show _ = tkV 3 (s.extract k (k + (j - k))) k 0
          rw [show k + (j - k) = j by omega, HX.out]
        have := HR.out
        subst this
        go_wp2_with fail
        refine (parse_any x (p1, ((0 : Nat) : Int)) _ (rng_below HG.out ((Below.refl _ _).alloc (Nat.le_refl _) _) h4) hxl HP).mono ?_
        rintro e w1 ⟨rfl, hb⟩
        obtain ⟨hc, hf⟩ := bcell hb
        have hz : w.heap.size < w1.heap.size := by have := hb.size; simp at this; omega
        go_wp2_with fail
        exact bodyPost_ret (v := tkV 3 x k 0) (by simp [results, Tryz.results124, go_sem, tkV, hc]) rfl ⟨rfl, below3 hb _ _ _⟩
      · have HR : Hid (tkV 0 ⟨#[]⟩ 0 1 = r) := by
          show _ = _
          rw [← HR0.out, if_neg (by decide)]; rfl
        have := HR.out
        subst this
        go_wp2_with fail
        refine (parse_any x (p1, ((1 : Nat) : Int)) _ (rng_below HG.out ((Below.refl _ _).alloc (Nat.le_refl _) _) h4) hxl HP).mono ?_
        rintro e w1 ⟨rfl, hb⟩
        obtain ⟨hc, hf⟩ := bcell hb
        have hz : w.heap.size < w1.heap.size := by have := hb.size; simp at this; omega
        go_wp2_with fail
        exact bodyPost_ret (v := tkV 0 ⟨#[]⟩ 0 1) (by simp [results, Tryz.results124, go_sem, tkV, hc]) rfl ⟨rfl, below3 hb _ _ _⟩
      · have HR : Hid (tkV 0 ⟨#[]⟩ 0 2 = r) := by
          show _ = _
          rw [← HR0.out, if_neg (by decide)]; rfl
        have := HR.out
        subst this
        go_wp2_with fail
        refine (parse_any x (p1, ((2 : Nat) : Int)) _ (rng_below HG.out ((Below.refl _ _).alloc (Nat.le_refl _) _) h4) hxl HP).mono ?_
        rintro e w1 ⟨rfl, hb⟩
        obtain ⟨hc, hf⟩ := bcell hb
        have hz : w.heap.size < w1.heap.size := by have := hb.size; simp at this; omega
        go_wp2_with fail
        exact bodyPost_ret (v := tkV 0 ⟨#[]⟩ 0 2) (by simp [results, Tryz.results124, go_sem, tkV, hc]) rfl ⟨rfl, below3 hb _ _ _⟩

end Go.Proofs.YtkahbhfbgdbnfaaGreatDoor

/-
  CONTRACT: signAt at every text of at most 2^48 bytes and every place in it, where the table of signs lies as the program's text lays it; of what was there nothing has turned.
-/
namespace Go.Proofs.YtkahbhfbgdbnfaaGreatDoor
open Go.RowKit

theorem pre2 (l d : List UInt8) (hd : d.length = 2) : Lib.hasPrefix l d = (l.take 2 == d) := by
  rw [← Lib.hasPrefix_of_take, hd]
  by_cases h : 2 ≤ l.length
  · rw [decide_eq_true h, Bool.true_and]
  · rw [decide_eq_false h, Bool.false_and]
    symm
    rw [beq_eq_false_iff_ne]
    intro e
    have := congrArg List.length e
    rw [List.length_take, hd] at this
    omega
theorem long_two : ∀ j : Nat, j < 9 → (longTab.getD j []).length = 2 := by decide
theorem short_index (j : Nat) (hj : j < 19) (w : World) : (Instr.index 9 (.string ⟨#[43, 45, 42, 47, 37, 38, 124, 94, 60, 62, 33, 61, 46, 44, 59, 40, 41, 123, 125]⟩) (.int .i64 j)).run Tryz.prog w = .ok (.int .u8 (shortTab.getD j 0).toNat) w := by
  rw [run_index_string w 9 _ .i64 j Tryz.underlying9]
  rcases (by omega : j = 0 ∨ j = 1 ∨ j = 2 ∨ j = 3 ∨ j = 4 ∨ j = 5 ∨ j = 6 ∨ j = 7 ∨ j = 8 ∨ j = 9 ∨ j = 10 ∨ j = 11 ∨ j = 12 ∨ j = 13 ∨ j = 14 ∨ j = 15 ∨ j = 16 ∨ j = 17 ∨ j = 18) with rfl | rfl | rfl | rfl | rfl | rfl | rfl | rfl | rfl | rfl | rfl | rfl | rfl | rfl | rfl | rfl | rfl | rfl | rfl <;> rfl
theorem short_step (k : Nat) (c : UInt8) (h : k < 19) : (shortTab.drop k).contains c = (c == shortTab.getD k 0 || (shortTab.drop (k + 1)).contains c) := by
  rw [List.drop_eq_getElem_cons (show k < shortTab.length from h), List.contains_cons, List.getD_eq_getElem?_getD, List.getElem?_eq_getElem (show k < shortTab.length from h)]; rfl

def SRel (W : World) (c : UInt8) (b : Bool) (i : Value) (wr : World) : Prop := ∃ j n : Nat, j ≤ 19 ∧ i = .int .i64 j ∧ wr = W.drewN n ∧ Hid (b = (shortTab.drop j).contains c)
theorem below_drewN {B : Nat} {a w : World} (h : Below B a w) (n : Nat) : Below B a (w.drewN n) := ⟨h.os, h.tape, h.output, h.size, h.block⟩

set_option maxRecDepth 100000 in
set_option maxHeartbeats 400000 in
theorem signAt_any (s : ByteArray) (k : Nat) (r : Value) (w : World) (hs : s.size ≤ 281474976710656) (hk : k < s.size) (hK : LongsIn w) (hr : Hid (tkOf s k (signT (s.data.toList.drop k) s[k]) = r)) :
    Calls Tryz.prog 125 #[.string s, .int .i64 k] w fun e w' => e = .returned r ∧ Below w.heap.size w w' := by
  have hK2 := hK.alloc (.cells #[.int .i64 0, .string ⟨#[]⟩, .int .i64 0] 108)
  obtain ⟨t, fr, hg⟩ := hK2
  have HG := Lib.hid hg
  clear hg hK
  obtain ⟨b, hb⟩ : ∃ b, b = longB (s.data.toList.drop k) := ⟨_, rfl⟩
  have HR : Hid (tkOf s k (if b then ⟨0, 4, 2⟩ else if shortB s[k] then ⟨0, 4, 1⟩ else ⟨1, 0, 0⟩) = r) := by
    show _ = _
    rw [← hr.out, hb]; rfl
  have HB := Lib.hid hb
  have hx := drop_extract s k
  have hx2 := cut_extract s k (k + 2)
  rw [show k + 2 - k = 2 by omega] at hx2
  have HX := Lib.hid hx
  have HX2 := Lib.hid hx2
  clear hb hr hx hx2
  go_enter Tryz.func125, Tryz.ntmps125
  go_wp2_with (refine wpList_load_row rfl 183 _ rfl 1 rfl t tabG fr _ HG.out Tryz.underlying183 rfl info110 ?_)
  go_loop [10] (fun i => ∃ j : Nat, j ≤ 9 ∧ i = .int .i64 j ∧ Hid (b = (longTab.drop j).contains ((s.data.toList.drop k).take 2))) (fun i => 9 - (intOf i).toNat)
  case atStart => exact ⟨0, by omega, rfl, HB⟩
  case round =>
    obtain ⟨j, hj, rfl, HJ⟩ := hrel
    by_cases hlt : j < 9
    · have hix := longs_index j hlt
      have hst := contains_step longTab j ((s.data.toList.drop k).take 2) hlt
      rw [← HJ.out] at hst
      have HST := Lib.hid hst
      have h2 := long_two j hlt
      clear hst
      generalize longTab.getD j [] = d at hix HST h2
      have hp := pre2 (s.data.toList.drop k) d h2
      cases hm : ((s.data.toList.drop k).take 2 == d) with
      | true =>
        have HP : Hid (Lib.hasPrefix (s.extract k s.size).data.toList (⟨d.toArray⟩ : ByteArray).data.toList = true) := by
          show _ = _
          rw [HX.out]; show Lib.hasPrefix _ d = true; rw [hp, hm]
        have hd : (⟨d.toArray⟩ : ByteArray) = s.extract k (k + 2) := str_eq (by rw [HX2.out]; exact (beq_iff_eq.1 hm).symm)
        have hbt : b = true := by rw [HST.out, hm]; rfl
        have HR2 : Hid (tkV 4 ⟨d.toArray⟩ k 0 = r) := by
          show _ = _
          rw [← HR.out, hbt, hd]; rfl
        have := HR2.out
        subst this
        clear hm hd HST HJ hp hbt h2
        go_wp2_with (go_at_call 120; refine (hasPre _ _ true _ HP).mono ?_; rintro e w' ⟨rfl, rfl⟩)
        exact bodyPost_ret (v := tkV 4 ⟨d.toArray⟩ k 0) (by simp [results, Tryz.results125, go_sem, tkV]) rfl ⟨rfl, (Below.refl _ _).alloc (Nat.le_refl _) _⟩
      | false =>
        have HP : Hid (Lib.hasPrefix (s.extract k s.size).data.toList (⟨d.toArray⟩ : ByteArray).data.toList = false) := by
          show _ = _
          rw [HX.out]; show Lib.hasPrefix _ d = false; rw [hp, hm]
        have HB2 : Hid (b = (longTab.drop (j + 1)).contains ((s.data.toList.drop k).take 2)) := by
          show _ = _
          rw [HST.out, hm]; rfl
        clear hm HST HJ hp h2
        go_wp2_with (go_at_call 120; refine (hasPre _ _ false _ HP).mono ?_; rintro e w' ⟨rfl, rfl⟩)
        go_round
        case rel => exact ⟨j + 1, by omega, by go_num, HB2⟩
        case measure => simp [intOf]; omega
    · have hbf : b = false := by rw [HJ.out, show j = 9 by omega]; rfl
      subst hbf
      obtain ⟨b, hb⟩ : ∃ b, b = shortB s[k] := ⟨_, rfl⟩
      have HR3 : Hid (tkOf s k (if b then ⟨0, 4, 1⟩ else ⟨1, 0, 0⟩) = r) := by
        show _ = _
        rw [← HR.out, hb]; rfl
      have HB2 : Hid (b = (shortTab.drop 0).contains s[k]) := hb
      clear HJ HR HB hb
      go_wp2_with fail
      go_loopw [22] (fun i wr => SRel (w.alloc (.cells #[.int .i64 0, .string ⟨#[]⟩, .int .i64 0] 108)) s[k] b i wr) (fun i _ => 19 - (intOf i).toNat)
      case atStart => exact ⟨0, 0, by omega, rfl, rfl, HB2⟩
      case round =>
        obtain ⟨i, n, hi, rfl, rfl, HI⟩ := hrel
        by_cases hlt2 : i < 19
        · have hix := short_index i hlt2
          have hst := short_step i s[k] hlt2
          rw [← HI.out] at hst
          have HST := Lib.hid hst
          clear hst
          generalize shortTab.getD i 0 = d at hix HST
          by_cases hm : d = s[k]
          · subst hm
            have hbt : b = true := by rw [HST.out]; simp
            subst hbt
            have HR4 : Hid (tkV 4 (s.extract k (k + 1)) k 0 = r) := HR3.out
            have := HR4.out
            subst this
            clear HST HI HR3 HR4
            go_wp2_with fail
            go_quiet (fail)
            go_wp2_with fail
            exact bodyPost_ret (v := tkV 4 (s.extract k (k + 1)) k 0) (by simp [results, Tryz.results125, go_sem, tkV]) rfl ⟨rfl, below3 (below_drewN (Below.refl _ _) _) _ _ _⟩
          · have HI2 : Hid (b = (shortTab.drop (i + 1)).contains s[k]) := by
              show _ = _
              rw [HST.out, beq_eq_false_iff_ne.2 (fun e => hm e.symm)]; rfl
            have hm1 : ((d.toNat : Int) == (s[k].toNat : Int)) = false := beq_eq_false_iff_ne.2 (fun e => hm (UInt8.toNat_inj.1 (by omega)))
            have hm2 : (d.toNat == s[k].toNat) = false := beq_eq_false_iff_ne.2 (fun e => hm (UInt8.toNat_inj.1 e))
            clear hm HST HI
            go_wp2_with fail
            go_quiet (fail)
            go_wp2_with fail
            go_roundw
            case rel => exact ⟨i + 1, _, by omega, by go_num, rfl, HI2⟩
            case measure => simp [intOf]; omega
        · have hbf : b = false := by rw [HI.out, show i = 19 by omega]; rfl
          subst hbf
          have HR4 : Hid (tkV 0 ⟨#[]⟩ 0 1 = r) := HR3.out
          have := HR4.out
          subst this
          go_wp2_with fail
          exact bodyPost_ret (v := tkV 0 ⟨#[]⟩ 0 1) (by simp [results, Tryz.results125, go_sem, tkV]) rfl ⟨rfl, below3 (below_drewN (Below.refl _ _) _) _ _ _⟩

end Go.Proofs.YtkahbhfbgdbnfaaGreatDoor
