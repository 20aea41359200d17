/-
  CONTRACT: what the reference's Text answers: a number's digits, as strconv's; of what was there nothing has turned. Condition: the number is one that an int holds.
-/
import Derived.Test.YtcbjcpmkebbfaaaDoorIrHas
import Derived.Lib.ItoaLen
import Derived.WalkLawsBesides
import Derived.WalkSpells
import Derived.Deep.WholeRow
namespace Go.Proofs.YtcbjcpmkebbfaaaDoor
open Go.RowKit
theorem dig_nat {u : Nat} (h : u < 10) : (UInt8.ofNat (48 + u)).toNat = 48 + u := by
  rw [UInt8.toNat_ofNat']; omega
theorem dec_step (u : Nat) (h : ¬ u < 10) : Lib.decDigits u = Lib.decDigits (u / 10) ++ [UInt8.ofNat (48 + u % 10)] := by rw [Lib.decDigits, dif_neg h]
theorem ret_str {a b : ByteArray} (h : a = b) : Ending.returned (.string a) = .returned (.string b) := by rw [h]
theorem conv_one (w : World) (d : Int) (c : UInt8) (h : Hid ((c.toNat : Int) = 48 + d)) : (convert 81 9 (Value.slice (some ⟨w.heap.size, 0, none⟩) 1 1)).run Tryd.prog (w.alloc (.cells #[.int .u8 (48 + d)] 5)) = .ok (.string ⟨#[c]⟩) (w.alloc (.cells #[.int .u8 (48 + d)] 5)) := by
  refine run_convert_bytes_back (P := Tryd.prog) (w.alloc (.cells #[.int .u8 (48 + d)] 5)) 81 9 5 ⟨w.heap.size, 0, none⟩ 1 [c] Tryd.underlying81 Tryd.underlying5 Tryd.underlying9 ?_
  intro j hj
  obtain rfl : j = 0 := by simpa using hj
  rw [show (⟨w.heap.size, 0, none⟩ : Addr).add 0 = ⟨w.heap.size, 0, none⟩ from rfl, ← h.out]
  exact (cell_of_row _ w.heap.size 0 #[.int .u8 (c.toNat : Int)] 5 (0, 0) (heap_alloc_last w _)).trans rfl

/-- How far the digits have come. -/
def Sd (u0 u : Nat) (l : List UInt8) : Prop :=
  (l = [] ∧ u = u0) ∨ (l ≠ [] ∧ u = 0 ∧ l = Lib.decDigits u0) ∨ (l ≠ [] ∧ u ≠ 0 ∧ Lib.decDigits u ++ l = Lib.decDigits u0)
theorem Sd.step {u0 u : Nat} {l : List UInt8} (h : Sd u0 u l) (hg : l = [] ∨ u ≠ 0) : Sd u0 (u / 10) (UInt8.ofNat (48 + u % 10) :: l) := by
  rcases h with ⟨rfl, rfl⟩ | ⟨h1, h2, h3⟩ | ⟨h1, h2, h3⟩
  · by_cases hu : u < 10
    · exact Or.inr (Or.inl ⟨by simp, by omega, by rw [Lib.decDigits_one hu, Nat.mod_eq_of_lt hu]⟩)
    · exact Or.inr (Or.inr ⟨by simp, by omega, (dec_step u hu).symm⟩)
  · rcases hg with hg | hg
    · exact absurd hg h1
    · exact absurd h2 hg
  · by_cases hu : u < 10
    · refine Or.inr (Or.inl ⟨by simp, by omega, ?_⟩)
      rw [← h3, Lib.decDigits_one hu, Nat.mod_eq_of_lt hu]; rfl
    · refine Or.inr (Or.inr ⟨by simp, by omega, ?_⟩)
      rw [← h3, dec_step u hu, List.append_assoc]; rfl
theorem Sd.len {u0 u : Nat} {l : List UInt8} (h : Sd u0 u l) (h0 : u0 < 18446744073709551616) : l.length ≤ 20 := by
  have hd : (Lib.decDigits u0).length ≤ 20 := by rw [Lib.decDigits_length]; exact Lib.nDigits_le20 u0 h0
  rcases h with ⟨rfl, rfl⟩ | ⟨h1, h2, h3⟩ | ⟨h1, h2, h3⟩
  · simp
  · rw [h3]; exact hd
  · have := congrArg List.length h3
    rw [List.length_append] at this
    omega
def emptyOf : Value → Nat | .string l => if l.size = 0 then 1 else 0 | _ => 0

theorem digit (m : Int) : ∃ d : Int, 0 ≤ d ∧ d ≤ 9 ∧ ((m.tmod 10 = -d ∧ 1 ≤ d) ∨ m.tmod 10 = d) ∧ ∃ c : UInt8, Hid ((c.toNat : Int) = 48 + d) ∧ Hid (c = UInt8.ofNat (48 + m.natAbs % 10)) := by
  have h := Int.natAbs_tmod m 10
  have hl : m.natAbs % 10 < 10 := Nat.mod_lt _ (by omega)
  refine ⟨(m.natAbs % 10 : Nat), by omega, by omega, ?_, UInt8.ofNat (48 + m.natAbs % 10), ?_, rfl⟩
  · have h10 : (10 : Int).natAbs = 10 := rfl
    rw [h10] at h
    omega
  · show ((UInt8.ofNat (48 + m.natAbs % 10)).toNat : Int) = _
    rw [dig_nat hl]; omega
theorem tdiv10 (m : Int) (h0 : -9223372036854775808 ≤ m) (h1 : m ≤ 9223372036854775807) :
    -9223372036854775808 ≤ wrap64 (m.tdiv 10) ∧ wrap64 (m.tdiv 10) ≤ 9223372036854775807 ∧ (wrap64 (m.tdiv 10)).natAbs = m.natAbs / 10 := by
  have h : (m.tdiv 10).natAbs = m.natAbs / 10 := Int.natAbs_tdiv m 10
  have hw : wrap64 (m.tdiv 10) = m.tdiv 10 := by unfold wrap64; omega
  rw [hw]
  omega
theorem app_toList (c : UInt8) (l : ByteArray) : ((⟨#[c]⟩ : ByteArray) ++ l).data.toList = c :: l.data.toList := by
  rw [ByteArray.data_append]; simp
theorem app_st {u0 u : Nat} (c : UInt8) (l : ByteArray) (h : Sd u0 u (c :: l.data.toList)) : Sd u0 u ((⟨#[c]⟩ : ByteArray) ++ l).data.toList := by
  rw [app_toList]; exact h
theorem app_size (c : UInt8) (l : ByteArray) : ((⟨#[c]⟩ : ByteArray) ++ l).size = l.size + 1 := by
  have h1 : ((⟨#[c]⟩ : ByteArray) ++ l).data.toList.length = ((⟨#[c]⟩ : ByteArray) ++ l).size := Array.length_toList
  have h2 : l.data.toList.length = l.size := Array.length_toList
  rw [app_toList, List.length_cons] at h1
  omega
theorem empty_nil {l : ByteArray} (h : l.size = 0) : l.data.toList = [] := List.length_eq_zero_iff.1 (Array.length_toList.trans h)
theorem meas1 (m : Int) (c : UInt8) (l : ByteArray) (h : (wrap64 (m.tdiv 10)).natAbs = m.natAbs / 10) (he : l.size = 0) :
    (intOf (.int .i64 (wrap64 (m.tdiv 10)))).natAbs + emptyOf (.string (⟨#[c]⟩ ++ l)) < (intOf (.int .i64 m)).natAbs + emptyOf (.string l) := by
  simp only [intOf, emptyOf]
  rw [h, if_neg (by rw [app_size]; omega), if_pos he]
  omega
theorem meas2 (m : Int) (c : UInt8) (l : ByteArray) (h : (wrap64 (m.tdiv 10)).natAbs = m.natAbs / 10) (hm : m.natAbs ≠ 0) :
    (intOf (.int .i64 (wrap64 (m.tdiv 10)))).natAbs + emptyOf (.string (⟨#[c]⟩ ++ l)) < (intOf (.int .i64 m)).natAbs + emptyOf (.string l) := by
  simp only [intOf, emptyOf]
  rw [h, if_neg (by rw [app_size]; omega)]
  omega
theorem nonempty_toList {l : ByteArray} (h : ¬ l.size = 0) : l.toList.isEmpty = false := by
  rw [ByteArray.toList_eq]
  have h2 : l.data.toList.length = l.size := Array.length_toList
  cases hl : l.data.toList with
  | nil => rw [hl] at h2; exact absurd h2.symm h
  | cons => rfl

/-- The relation of the loop. -/
def TRel (n : Int) (w : World) (x s : Value) (wr : World) : Prop :=
  ∃ (m : Int) (l : ByteArray), x = .int .i64 m ∧ s = .string l ∧ Hid (-9223372036854775808 ≤ m ∧ m ≤ 9223372036854775807) ∧ Hid (Sd n.natAbs m.natAbs l.data.toList) ∧ Below w.heap.size w wr

set_option maxRecDepth 20000 in
set_option maxHeartbeats 1000000 in
theorem refText_any (n : Int) (w : World) (h0 : -9223372036854775808 ≤ n) (h1 : n ≤ 9223372036854775807) : Calls Tryd.prog 32 #[.int .i64 n] w fun e w' => e = .returned (.string ⟨(Lib.itoa n).toArray⟩) ∧ Below w.heap.size w w' := by
  obtain ⟨r, hr⟩ : ∃ r : ByteArray, (⟨(Lib.itoa n).toArray⟩ : ByteArray) = r := ⟨_, rfl⟩
  rw [hr]
  have HR := Lib.hid hr
  have HN : Hid (-9223372036854775808 ≤ n ∧ n ≤ 9223372036854775807) := ⟨h0, h1⟩
  clear hr h0 h1
  go_enter Tryd.func32, Tryd.ntmps32
  by_cases hn : n < 0
  · go_wp2_with fail
    go_loopw [0, 3] (fun x s wr => TRel n w x s wr) (fun x s _ => (intOf x).natAbs + emptyOf s)
    case atStart => exact ⟨n, ⟨#[]⟩, rfl, rfl, HN, Or.inl ⟨rfl, rfl⟩, Below.refl _ _⟩
    case round =>
      obtain ⟨m, l, rfl, rfl, HM, HS, hb⟩ := hrel
      have hl : l.size ≤ 20 := by
        have := HS.out.len (by have := HN.out; omega)
        have h2 : l.data.toList.length = l.size := Array.length_toList
        omega
      by_cases he : l.size = 0
      · have hE : l = ⟨#[]⟩ := Go.WideShapes.bytes_inj (empty_nil he)
        subst hE
        obtain ⟨d, hd0, hd1, hd, c, HC, HK⟩ := digit m
        have hcv := conv_one wr d c HC
        have HS2 := HS.out.step (Or.inl (empty_nil he))
        have HT := tdiv10 m HM.out.1 HM.out.2
        rw [← HK.out, ← HT.2.2] at HS2
        have HS3 := Lib.hid HS2
        have HT2 := Lib.hid HT
        clear HS2 HT
        rcases hd with ⟨hd, hp⟩ | hd
        · go_wp2_with fail
          go_roundw
          case rel => exact ⟨_, _, rfl, rfl, ⟨HT2.out.1, HT2.out.2.1⟩, app_st c _ HS3.out, hb.alloc hb.size _⟩
          case measure => exact meas1 m c _ HT2.out.2.2 he
        · go_wp2_with fail
          go_roundw
          case rel => exact ⟨_, _, rfl, rfl, ⟨HT2.out.1, HT2.out.2.1⟩, app_st c _ HS3.out, hb.alloc hb.size _⟩
          case measure => exact meas1 m c _ HT2.out.2.2 he
      · have hne := nonempty_toList he
        by_cases hm : m = 0
        · subst hm
          have hfin : l.data.toList = Lib.decDigits n.natAbs := by
            rcases HS.out with ⟨a, _⟩ | ⟨_, _, a⟩ | ⟨_, a, _⟩
            · exact absurd (by have h2 : l.data.toList.length = l.size := Array.length_toList; rw [a] at h2; exact h2.symm) he
            · exact a
            · exact absurd rfl a
          have HF := Lib.hid hfin
          clear hfin
          go_wp2_with fail
          go_ret
          refine ⟨ret_str ?_, hb⟩
          rw [← HR.out]
          refine Go.WideShapes.bytes_inj ?_
          show _ = Lib.itoa n
          rw [app_toList, HF.out, Lib.itoa, if_pos hn]
        · have hm1 : (m != 0) = true := by simpa using hm
          have hm2 : m.natAbs ≠ 0 := by omega
          obtain ⟨d, hd0, hd1, hd, c, HC, HK⟩ := digit m
          have hcv := conv_one wr d c HC
          have HS2 := HS.out.step (Or.inr hm2)
          have HT := tdiv10 m HM.out.1 HM.out.2
          rw [← HK.out, ← HT.2.2] at HS2
          have HS3 := Lib.hid HS2
          have HT2 := Lib.hid HT
          clear HS2 HT
          rcases hd with ⟨hd, hp⟩ | hd
          · go_wp2_with fail
            go_roundw
            case rel => exact ⟨_, _, rfl, rfl, ⟨HT2.out.1, HT2.out.2.1⟩, app_st c _ HS3.out, hb.alloc hb.size _⟩
            case measure => exact meas2 m c l HT2.out.2.2 hm2
          · go_wp2_with fail
            go_roundw
            case rel => exact ⟨_, _, rfl, rfl, ⟨HT2.out.1, HT2.out.2.1⟩, app_st c _ HS3.out, hb.alloc hb.size _⟩
            case measure => exact meas2 m c l HT2.out.2.2 hm2
  · go_wp2_with fail
    go_loopw [0, 3] (fun x s wr => TRel n w x s wr) (fun x s _ => (intOf x).natAbs + emptyOf s)
    case atStart => exact ⟨n, ⟨#[]⟩, rfl, rfl, HN, Or.inl ⟨rfl, rfl⟩, Below.refl _ _⟩
    case round =>
      obtain ⟨m, l, rfl, rfl, HM, HS, hb⟩ := hrel
      have hl : l.size ≤ 20 := by
        have := HS.out.len (by have := HN.out; omega)
        have h2 : l.data.toList.length = l.size := Array.length_toList
        omega
      by_cases he : l.size = 0
      · have hE : l = ⟨#[]⟩ := Go.WideShapes.bytes_inj (empty_nil he)
        subst hE
        obtain ⟨d, hd0, hd1, hd, c, HC, HK⟩ := digit m
        have hcv := conv_one wr d c HC
        have HS2 := HS.out.step (Or.inl (empty_nil he))
        have HT := tdiv10 m HM.out.1 HM.out.2
        rw [← HK.out, ← HT.2.2] at HS2
        have HS3 := Lib.hid HS2
        have HT2 := Lib.hid HT
        clear HS2 HT
        rcases hd with ⟨hd, hp⟩ | hd
        · go_wp2_with fail
          go_roundw
          case rel => exact ⟨_, _, rfl, rfl, ⟨HT2.out.1, HT2.out.2.1⟩, app_st c _ HS3.out, hb.alloc hb.size _⟩
          case measure => exact meas1 m c _ HT2.out.2.2 he
        · go_wp2_with fail
          go_roundw
          case rel => exact ⟨_, _, rfl, rfl, ⟨HT2.out.1, HT2.out.2.1⟩, app_st c _ HS3.out, hb.alloc hb.size _⟩
          case measure => exact meas1 m c _ HT2.out.2.2 he
      · have hne := nonempty_toList he
        by_cases hm : m = 0
        · subst hm
          have hfin : l.data.toList = Lib.decDigits n.natAbs := by
            rcases HS.out with ⟨a, _⟩ | ⟨_, _, a⟩ | ⟨_, a, _⟩
            · exact absurd (by have h2 : l.data.toList.length = l.size := Array.length_toList; rw [a] at h2; exact h2.symm) he
            · exact a
            · exact absurd rfl a
          have HF := Lib.hid hfin
          clear hfin
          go_wp2_with fail
          go_ret
          refine ⟨ret_str ?_, hb⟩
          rw [← HR.out]
          refine Go.WideShapes.bytes_inj ?_
          show _ = Lib.itoa n
          rw [HF.out, Lib.itoa, if_neg (by omega)]
          congr 1; omega
        · have hm1 : (m != 0) = true := by simpa using hm
          have hm2 : m.natAbs ≠ 0 := by omega
          obtain ⟨d, hd0, hd1, hd, c, HC, HK⟩ := digit m
          have hcv := conv_one wr d c HC
          have HS2 := HS.out.step (Or.inr hm2)
          have HT := tdiv10 m HM.out.1 HM.out.2
          rw [← HK.out, ← HT.2.2] at HS2
          have HS3 := Lib.hid HS2
          have HT2 := Lib.hid HT
          clear HS2 HT
          rcases hd with ⟨hd, hp⟩ | hd
          · go_wp2_with fail
            go_roundw
            case rel => exact ⟨_, _, rfl, rfl, ⟨HT2.out.1, HT2.out.2.1⟩, app_st c _ HS3.out, hb.alloc hb.size _⟩
            case measure => exact meas2 m c l HT2.out.2.2 hm2
          · go_wp2_with fail
            go_roundw
            case rel => exact ⟨_, _, rfl, rfl, ⟨HT2.out.1, HT2.out.2.1⟩, app_st c _ HS3.out, hb.alloc hb.size _⟩
            case measure => exact meas2 m c l HT2.out.2.2 hm2

end Go.Proofs.YtcbjcpmkebbfaaaDoor
