/-
  CONTRACTS: what num.Sign, Signed, isForm answer, at all arguments, where the table of signs lies as its initialiser lays it. The world is as it was.
-/
import Derived.Test.YtgdchlgepgbhhaaDoorNum
import Derived.Test.YtgdchlgepgbhhaaDoorShelf
import Derived.WalkKit
import Derived.WalkSpells
import Derived.WalkLawsBesides
import Derived.Lib.Hide
namespace Go.Proofs.YtgdchlgepgbhhaaDoor
open Go.RowKit

def SignsIn (w : World) : Prop := ∀ i : Nat, i < 19 → w.cell? ⟨0, i, none⟩ = some (.string ⟨(signTab.getD i []).toArray⟩)

theorem ret_str {a b : ByteArray} (h : a = b) : Ending.returned (.string a) = .returned (.string b) := by rw [h]
theorem ret_ib {a b : Int} {c d : Bool} (h : a = b) (g : c = d) : Ending.returned (.tuple #[.int .i64 a, .bool c]) = .returned (.tuple #[.int .i64 b, .bool d]) := by rw [h, g]

set_option maxHeartbeats 400000 in
theorem sign_none (op : Int) (w : World) (h : op < 1 ∨ 18 < op) : Calls Tryd.prog 17 #[.int .i64 op] w fun e w' => e = .returned (.string (signS op)) ∧ w = w' := by
  have e1 : binB op = false := by unfold binB; simp; omega
  have e2 : unB op = false := by unfold unB; simp; omega
  have hv : signS op = ⟨#[]⟩ := by simp [signS, signL, h]
  rw [hv]
  clear hv
  go_enter Tryd.func17, Tryd.ntmps17
  go_wp2_with (first | (go_at_call 13; refine (isBinary_any _ _).mono ?_; rintro e w' ⟨rfl, rfl⟩) | (go_at_call 14; refine (isUnary_any _ _).mono ?_; rintro e w' ⟨rfl, rfl⟩))
  go_ret
  exact ⟨rfl, rfl⟩
set_option maxHeartbeats 400000 in
theorem sign_some (op : Int) (w : World) (h1 : 1 ≤ op) (h2 : op ≤ 18) (hS : SignsIn w) : Calls Tryd.prog 17 #[.int .i64 op] w fun e w' => e = .returned (.string (signS op)) ∧ w = w' := by
  obtain ⟨k, rfl⟩ := Int.eq_ofNat_of_zero_le (show 0 ≤ op by omega)
  have hv : signS (k : Int) = ⟨(signTab.getD k []).toArray⟩ := by
    unfold signS signL; rw [if_neg (by omega), Int.toNat_natCast]
  have hc := hS k (by omega)
  rw [hv]
  clear hv hS
  generalize (⟨(signTab.getD k []).toArray⟩ : ByteArray) = s at *
  by_cases h3 : (k : Int) ≤ 16
  · have e1 : binB (k : Int) = true := by unfold binB; simp; omega
    go_enter Tryd.func17, Tryd.ntmps17
    go_wp2_with (first | (go_at_call 13; refine (isBinary_any _ _).mono ?_; rintro e w' ⟨rfl, rfl⟩) | (go_at_call 14; refine (isUnary_any _ _).mono ?_; rintro e w' ⟨rfl, rfl⟩))
    go_ret
    exact ⟨rfl, rfl⟩
  · have e1 : binB (k : Int) = false := by unfold binB; simp; omega
    have e2 : unB (k : Int) = true := by unfold unB; simp; omega
    go_enter Tryd.func17, Tryd.ntmps17
    go_wp2_with (first | (go_at_call 13; refine (isBinary_any _ _).mono ?_; rintro e w' ⟨rfl, rfl⟩) | (go_at_call 14; refine (isUnary_any _ _).mono ?_; rintro e w' ⟨rfl, rfl⟩))
    go_ret
    exact ⟨rfl, rfl⟩
theorem sign_any (op : Int) (w : World) (hS : SignsIn w) : Calls Tryd.prog 17 #[.int .i64 op] w fun e w' => e = .returned (.string (signS op)) ∧ w = w' := by
  by_cases h : op < 1 ∨ 18 < op
  · exact sign_none op w h
  · exact sign_some op w (by omega) (by omega) hS

theorem find_hit (l : List UInt8) (k n : Nat) (h : signTab.getD k [] = l) : findN l k (n + 1) = k := by rw [findN, if_pos h]
theorem find_miss (l : List UInt8) (k n : Nat) (h : ¬ signTab.getD k [] = l) : findN l k (n + 1) = findN l (k + 1) n := by
  rw [findN, if_neg h]

set_option maxHeartbeats 400000 in
theorem among_any (s : ByteArray) (a n : Nat) (w : World) (h1 : 1 ≤ a) (h2 : a + n ≤ 19) (hS : SignsIn w) :
    Calls Tryd.prog 40 #[.string s, .int .i64 a, .int .i64 ((a + n : Nat) - 1 : Int)] w fun e w' => e = .returned (.tuple #[.int .i64 (findN s.data.toList a n), .bool (findN s.data.toList a n != 0)]) ∧ w = w' := by
  have HS := Lib.hid hS
  clear hS
  obtain ⟨b, hb⟩ : ∃ b : Int, b = ((a + n : Nat) - 1 : Int) := ⟨_, rfl⟩
  obtain ⟨l, hl⟩ : ∃ l : Nat, l = a + n := ⟨_, rfl⟩
  have hn : n = l - a := by omega
  rw [← hb]
  subst hn
  have Hb : b + 1 = l := by omega
  have HB := Lib.hid Hb
  have hb1 : b ≤ 18 := by omega
  have hal : a ≤ l := by omega
  clear hb hl Hb
  obtain ⟨q, hq⟩ : ∃ q : Int, q = findN s.data.toList a (l - a) := ⟨_, rfl⟩
  rw [← hq]
  have HQ := Lib.hid hq
  clear hq
  go_enter Tryd.func40, Tryd.ntmps40
  go_wp2
  go_loop [8] (fun i => ∃ k : Nat, a ≤ k ∧ k ≤ l ∧ i = .int .i64 k ∧ Hid (q = findN s.data.toList k (l - k))) (fun i => 19 - (intOf i).toNat)
  case atStart => exact ⟨a, Nat.le_refl _, by omega, rfl, HQ⟩
  case round =>
    obtain ⟨k, hk1, hk2, rfl, HK⟩ := hrel
    have hbl := HB.out
    by_cases hlt : (k : Int) ≤ b
    · have hc := HS.out k (by omega)
      by_cases hm : signTab.getD k [] = s.data.toList
      · have hf : q = k := by rw [HK.out, show l - k = (l - k - 1) + 1 by omega, find_hit _ _ _ hm]
        have HF := Lib.hid hf
        have hk18 : k < 19 := by omega
        clear hf hbl
        have hsb : (⟨(signTab.getD k []).toArray⟩ : ByteArray) = s := by rw [hm]
        rw [hsb] at hc
        clear hsb hm HK
        go_wp2
        go_ret2
        exact ⟨ret_ib HF.out.symm (by rw [HF.out]; simp; omega), rfl⟩
      · have hf : q = findN s.data.toList (k + 1) (l - (k + 1)) := by rw [HK.out, show l - k = (l - k - 1) + 1 by omega, find_miss _ _ _ hm]; rfl
        have HF := Lib.hid hf
        have hk18 : k < 19 := by omega
        have hne : ((signTab.getD k []) == s.toList) = false := by
          simp; intro e; apply hm; rw [List.getD_eq_getElem?_getD, e]; exact ByteArray.toList_eq s
        clear hf hbl hm HK
        generalize signTab.getD k [] = t at hc hne
        go_wp2
        go_round
        case rel => exact ⟨k + 1, by omega, by have := HB.out; omega, by go_num, HF⟩
        case measure => simp [intOf]; omega
    · have hf : q = 0 := by rw [HK.out, show l - k = 0 by omega]; rfl
      have HF := Lib.hid hf
      clear hf HK
      go_wp2
      go_ret2
      exact ⟨ret_ib HF.out.symm (by rw [HF.out]; rfl), rfl⟩

set_option maxHeartbeats 400000 in
theorem signed_any (s : ByteArray) (args : Int) (w : World) (hS : SignsIn w) : Calls Tryd.prog 16 #[.string s, .int .i64 args] w fun e w' => e = .returned (.tuple #[.int .i64 (signedV s args), .bool (signedV s args != 0)]) ∧ w = w' := by
  have HS := Lib.hid hS
  clear hS
  by_cases h1 : args = 1
  · subst h1
    have hv : signedV s 1 = findN s.data.toList 17 2 := by simp [signedV]
    rw [hv]
    clear hv
    go_enter Tryd.func16, Tryd.ntmps16
    go_wp2_with (go_at_call 40; refine (among_any _ 17 2 _ (by omega) (by omega) HS.out).mono ?_; rintro e w' ⟨rfl, rfl⟩)
    go_ret2
    exact ⟨rfl, rfl⟩
  · by_cases h2 : args = 2
    · subst h2
      have hv : signedV s 2 = findN s.data.toList 1 16 := by simp [signedV]
      rw [hv]
      clear hv
      go_enter Tryd.func16, Tryd.ntmps16
      go_wp2_with (go_at_call 40; refine (among_any _ 1 16 _ (by omega) (by omega) HS.out).mono ?_; rintro e w' ⟨rfl, rfl⟩)
      go_ret2
      exact ⟨rfl, rfl⟩
    · have hv : signedV s args = 0 := by simp [signedV, h1, h2]
      have b1 : (args == 1) = false := by simpa using h1
      have b2 : (args == 2) = false := by simpa using h2
      rw [hv]
      clear hv h1 h2
      go_enter Tryd.func16, Tryd.ntmps16
      go_wp2
      go_ret2
      exact ⟨rfl, rfl⟩

theorem trim_any (s d : ByteArray) (H : Hid (trimV s = d)) (w : World) : Calls Tryd.prog 45 #[.string s, .string ⟨#[45]⟩] w fun e w' => e = .returned (.string d) ∧ w = w' := by
  refine (Tryd.strings_TrimPrefix s ⟨#[45]⟩ w).mono ?_
  rintro e w' ⟨rfl, rfl⟩
  exact ⟨ret_str H.out, rfl⟩

theorem all_snoc (l : List UInt8) (k : Nat) (h : k < l.length) : (l.take (k + 1)).all digB = ((l.take k).all digB && digB l[k]) := by
  rw [List.take_succ_eq_append_getElem h, List.all_append]; simp

set_option maxHeartbeats 400000 in
theorem isForm_core (s d : ByteArray) (w : World) (hT : Hid (trimV s = d)) (hs : (s.toList == [48]) = false) (hm : d.size ≤ maxLen) :
    Calls Tryd.prog 41 #[.string s] w fun e w' => e = .returned (.bool (plainB d.data.toList)) ∧ w = w' := by
  obtain ⟨b, hb⟩ : ∃ b, b = plainB d.data.toList := ⟨_, rfl⟩
  rw [← hb]
  have HB := Lib.hid hb
  clear hb
  unfold maxLen at hm
  have hdl : d.toList = d.data.toList := ByteArray.toList_eq d
  have HDL := Lib.hid hdl
  have hsz : d.data.toList.length = d.size := Array.length_toList
  have HSZ := Lib.hid hsz
  clear hdl hsz
  by_cases h0 : d.size = 0
  · have he : d.data.toList = [] := List.length_eq_zero_iff.1 (HSZ.out.trans h0)
    have hE : d = ⟨#[]⟩ := Go.WideShapes.bytes_inj he
    subst hE
    obtain rfl : b = false := by rw [HB.out]; rfl
    clear h0 he HB hm HDL HSZ
    go_enter Tryd.func41, Tryd.ntmps41
    go_wp2_with (go_at_call 45; refine (trim_any _ _ hT _).mono ?_; rintro e w' ⟨rfl, rfl⟩)
    go_ret
    exact ⟨rfl, rfl⟩
  · have hp : 0 < d.size := by omega
    have hne : d.toList.isEmpty = false := by
      rw [HDL.out]; cases hl : d.data.toList with
      | nil => have := HSZ.out; rw [hl] at this; simp at this; omega
      | cons => rfl
    have hh : d.data.toList.headD 48 = d[0] := by
      rw [List.headD_eq_head?_getD, List.head?_eq_getElem?, List.getElem?_eq_getElem (by rw [HSZ.out]; exact hp)]; rfl
    by_cases hz : d[0] = 48
    · have hz1 : ((d[0].toNat : Int) == 48) = true := by rw [hz]; rfl
      obtain rfl : b = false := by rw [HB.out]; unfold plainB; rw [hh, hz]; simp
      clear hz hh HB h0
      go_enter Tryd.func41, Tryd.ntmps41
      go_wp2_with (go_at_call 45; refine (trim_any _ _ hT _).mono ?_; rintro e w' ⟨rfl, rfl⟩)
      go_ret
      exact ⟨rfl, rfl⟩
    · have hz1 : ((d[0].toNat : Int) == 48) = false := by
        simp; intro e; apply hz; exact UInt8.toNat_inj.1 (by simpa using (by omega : d[0].toNat = 48))
      have hv : b = d.data.toList.all digB := by
        rw [HB.out]; unfold plainB; rw [hh]
        have : d.data.toList.isEmpty = false := by rw [← HDL.out]; exact hne
        simp [this, hz]
      have HV := Lib.hid hv
      clear hz hh HB h0 hv
      go_enter Tryd.func41, Tryd.ntmps41
      go_wp2_with (go_at_call 45; refine (trim_any _ _ hT _).mono ?_; rintro e w' ⟨rfl, rfl⟩)
      go_loop [18] (fun i => ∃ k : Nat, k ≤ d.size ∧ i = .int .i64 k ∧ Hid ((d.data.toList.take k).all digB = true)) (fun i => d.size - (intOf i).toNat)
      case atStart => exact ⟨0, Nat.zero_le _, rfl, rfl⟩
      case round =>
        obtain ⟨k, hk, rfl, HK⟩ := hrel
        by_cases hlt : k < d.size
        · have hg : d.data.toList[k]'(by rw [HSZ.out]; exact hlt) = d[k] := rfl
          have hsn := all_snoc d.data.toList k (by rw [HSZ.out]; exact hlt)
          rw [hg, HK.out, Bool.true_and] at hsn
          by_cases hd : digB d[k] = true
          · have hk1 : (d.data.toList.take (k + 1)).all digB = true := by rw [hsn]; exact hd
            have HK1 := Lib.hid hk1
            have hd1 : 48 ≤ d[k].toNat ∧ d[k].toNat ≤ 57 := by simpa [digB] using hd
            have l1 : ¬ (d[k].toNat : Int) < 48 := by omega
            have l2 : ¬ 57 < (d[k].toNat : Int) := by omega
            clear hg hsn hd hk1 hd1
            go_wp2
            go_round
            case rel => exact ⟨k + 1, by omega, by go_num, HK1⟩
            case measure => simp [intOf]; omega
          · have hf : b = false := by
              rw [HV.out, ← List.take_append_drop (k + 1) d.data.toList, List.all_append, hsn]
              simp [hd]
            subst hf
            have hd1 : d[k].toNat < 48 ∨ 57 < d[k].toNat := by
              have : ¬ (48 ≤ d[k].toNat ∧ d[k].toNat ≤ 57) := by simpa [digB] using hd
              omega
            rcases hd1 with hd1 | hd1
            · have l1 : (d[k].toNat : Int) < 48 := by omega
              clear hg hsn hd hd1
              go_wp2
              go_ret
              exact ⟨rfl, rfl⟩
            · have l1 : ¬ (d[k].toNat : Int) < 48 := by omega
              have l2 : 57 < (d[k].toNat : Int) := by omega
              clear hg hsn hd hd1
              go_wp2
              go_ret
              exact ⟨rfl, rfl⟩
        · have hf : b = true := by
            rw [HV.out]; have := HK.out; rwa [List.take_of_length_le (by rw [HSZ.out]; omega)] at this
          subst hf
          go_wp2
          go_ret
          exact ⟨rfl, rfl⟩

theorem trim_size (s : ByteArray) : (trimV s).size ≤ s.size := by
  have h1 : (trimV s).size = (Lib.trimPrefix s.data.toList [45]).length := List.size_toArray
  have h2 := Lib.trimPrefix_le s.data.toList [45]
  have h3 : s.data.toList.length = s.size := Array.length_toList
  omega

set_option maxHeartbeats 400000 in
theorem isForm_any (s : ByteArray) (w : World) (hm : s.size ≤ maxLen) : Calls Tryd.prog 41 #[.string s] w fun e w' => e = .returned (.bool (formB s)) ∧ w = w' := by
  have e1 := ByteArray.toList_eq s
  by_cases h : (s.toList == [48]) = true
  · have hv : formB s = true := by unfold formB; rw [← e1, h]; rfl
    rw [hv]
    clear hv e1
    go_enter Tryd.func41, Tryd.ntmps41
    go_wp2
    go_ret
    exact ⟨rfl, rfl⟩
  · have h' : (s.toList == [48]) = false := by simpa using h
    have hv : formB s = plainB (trimV s).data.toList := by unfold formB; rw [← e1, h']; rfl
    rw [hv]
    exact isForm_core s (trimV s) w (Lib.hid rfl) h' (Nat.le_trans (trim_size s) hm)

end Go.Proofs.YtgdchlgepgbhhaaDoor
