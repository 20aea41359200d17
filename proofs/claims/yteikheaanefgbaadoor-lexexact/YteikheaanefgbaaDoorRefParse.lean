/-
  CONTRACT: what the reference's Parse answers at every text of at most 5000 bytes; the world is as it was.
-/
import Derived.Test.YteikheaanefgbaaDoorParse
import Derived.Test.YteikheaanefgbaaDoorLine
namespace Go.Proofs.YteikheaanefgbaaDoor
open Go.RowKit

theorem val_low {l : List UInt8} {c : UInt8} {r : List UInt8} (hl : l = c :: r) (hd : l.all digB = true) (h48 : c ≠ 48) : 10 ^ r.length ≤ val 0 l := by
  have step : ∀ (r : List UInt8) (a : Nat), a * 10 ^ r.length ≤ val a r := by
    intro r
    induction r with
    | nil => intro a; rw [val_nil]; simp
    | cons x r ih =>
      intro a
      have := ih (a * 10 + (x.toNat - 48))
      rw [val_cons, List.length_cons, Nat.pow_succ, Nat.mul_comm (10 ^ r.length) 10, ← Nat.mul_assoc]
      exact Nat.le_trans (Nat.mul_le_mul_right _ (by omega)) this
  subst hl
  simp only [List.all_cons, Bool.and_eq_true] at hd
  have hc : 48 ≤ c.toNat ∧ c.toNat ≤ 57 := by simpa [digB] using hd.1
  have hc2 : c.toNat ≠ 48 := fun e => h48 (UInt8.toNat_inj.1 e)
  rw [val_cons]
  have hm : 1 * 10 ^ r.length ≤ (0 * 10 + (c.toNat - 48)) * 10 ^ r.length := Nat.mul_le_mul_right _ (by omega)
  rw [Nat.one_mul] at hm
  exact Nat.le_trans hm (step r (0 * 10 + (c.toNat - 48)))
theorem val_long {d : ByteArray} (h : 0 < d.size) (h48 : d[0] ≠ 48) (ha : d.data.toList.all digB = true) (hl : 19 < d.size) : 9223372036854775808 < val 0 d.data.toList := by
  obtain ⟨r, hr⟩ := head_at d h
  have h1 := val_low hr ha h48
  have h2 : r.length + 1 = d.size := by rw [← len_size d, hr]; rfl
  have h3 : 10 ^ 19 ≤ 10 ^ r.length := Nat.pow_le_pow_right (by omega) (by omega)
  omega
theorem val_short {d : ByteArray} (k : Nat) (hk : k ≤ 18) (ha : d.data.toList.all digB = true) : val 0 (d.data.toList.take k) ≤ 1000000000000000000 := by
  have h0 : (d.data.toList.take k).all digB = true := by
    rw [← List.take_append_drop k d.data.toList, List.all_append, Bool.and_eq_true] at ha; exact ha.1
  have h1 := val_bound (d.data.toList.take k) 0 h0
  have h2 : (d.data.toList.take k).length ≤ k := List.length_take_le _ _
  have h3 : 10 ^ (d.data.toList.take k).length ≤ 10 ^ 18 := Nat.pow_le_pow_right (by omega) (by omega)
  omega
theorem val_take (d : ByteArray) (j : Nat) (h : j < d.size) : val 0 (d.data.toList.take (j + 1)) = val 0 (d.data.toList.take j) * 10 + (d[j].toNat - 48) := by
  rw [List.take_succ_eq_append_getElem (by rw [len_size]; exact h), val_snoc]; rfl
theorem dig_of_all (d : ByteArray) (j : Nat) (h : j < d.size) (ha : d.data.toList.all digB = true) : 48 ≤ d[j].toNat ∧ d[j].toNat ≤ 57 := by
  have h2 := List.all_eq_true.1 ha (d.data.toList[j]'(by rw [len_size]; exact h)) (List.getElem_mem _)
  rw [show d.data.toList[j]'(by rw [len_size]; exact h) = d[j] from rfl] at h2
  simpa [digB] using h2
theorem take_snocB (d : ByteArray) (k : Nat) (h : k < d.size) : (d.data.toList.take (k + 1)).all digB = ((d.data.toList.take k).all digB && digB d[k]) := all_snoc d.data.toList k (by rw [len_size]; exact h)
theorem neg_wrap (a : Int) (h0 : 0 ≤ a) (h1 : a ≤ 9223372036854775808) : wrap64 (IntKind.u64.wrap (-a)) = -a := by
  rw [show IntKind.u64.wrap (-a) = (-a) % 18446744073709551616 from rfl]; unfold wrap64; omega

def LRel (d : ByteArray) (i : Value) : Prop := ∃ k : Nat, k ≤ d.size ∧ i = .int .i64 k ∧ Hid ((d.data.toList.take k).all digB = true)
def URel (d : ByteArray) (u i : Value) : Prop := ∃ (j : Nat) (a : Int), j ≤ d.size ∧ i = .int .i64 j ∧ u = .int .u64 a ∧ 0 ≤ a ∧ Hid (a = val 0 (d.data.toList.take j))

set_option maxHeartbeats 1000000 in
theorem refParse_neg (s : ByteArray) (w : World) (hs0 : 0 < s.size) (hs1 : s.size ≤ 5000) (h45 : s[0] = 45) : Calls Tryd.prog 21 #[.string s] w fun e w' => e = .returned (.tuple #[.int .i64 (specP s).1, .int .i64 (specP s).2]) ∧ w = w' := by
  obtain ⟨p, hp⟩ : ∃ p, specP s = p := ⟨_, rfl⟩
  rw [hp]
  have HR := Lib.hid hp
  clear hp
  obtain ⟨d, hd⟩ : ∃ d, s.extract 1 s.size = d := ⟨_, rfl⟩
  obtain ⟨ht, hds⟩ := trim_neg s d hs0 h45 hd
  have hsl : ∀ w, (Instr.slice 9 (.string s) (some (.int .i64 1)) none none).run Tryd.prog w = .ok (.string d) w := fun w => by
    rw [run_slice_string_l (P := Tryd.prog) w 9 s Tryd.underlying9 .i64 1 (by omega) (by omega), ← hd]; rfl
  have b45 : ((s[0].toNat : Int) == 45) = true := by rw [h45]; rfl
  have hs48 : (s.toList == [48]) = false := by
    obtain ⟨r, hr⟩ := head_at s hs0
    rw [ByteArray.toList_eq, hr, h45]; rfl
  have hs48' : (s.toList != [48]) = true := by rw [bne, hs48]; rfl
  have HT := Lib.hid ht
  have hdl : d.size < s.size := by omega
  clear hd h45 ht hds
  by_cases h0 : d.size = 0
  · have hE : d = ⟨#[]⟩ := Go.WideShapes.bytes_inj (List.length_eq_zero_iff.1 ((len_size d).trans h0))
    have HP : Hid (p = (0, 1)) := HR.out.symm.trans (spec_no (form_empty HT.out h0 hs48))
    subst hE
    clear h0 hdl
    go_enter Tryd.func21, Tryd.ntmps21
    go_wp2_with fail
    go_ret2
    exact ⟨ret_pair HP.out, rfl⟩
  · have hd0 : 0 < d.size := by omega
    have hdz : ((d.size : Int) == 0) = false := beq_eq_false_iff_ne.2 (by omega)
    by_cases h48 : d[0] = 48
    · have HP : Hid (p = (0, 1)) := HR.out.symm.trans (spec_no (form_zero HT.out hd0 h48 hs48))
      have hz : ((d[0].toNat : Int) == 48) = true := by rw [h48]; rfl
      clear h48 h0
      go_enter Tryd.func21, Tryd.ntmps21
      go_wp2_with fail
      go_ret2
      exact ⟨ret_pair HP.out, rfl⟩
    · have HB := Lib.hid (form_all HT.out hd0 h48 hs48)
      have HZ := Lib.hid h48
      have hz : ((d[0].toNat : Int) == 48) = false := by
        simp; intro e; exact h48 (UInt8.toNat_inj.1 (by simpa using (by omega : d[0].toNat = 48)))
      clear h48 h0
      go_enter Tryd.func21, Tryd.ntmps21
      go_wp2_with fail
      go_loop [5] (fun i => LRel d i) (fun i => d.size - (intOf i).toNat)
      case atStart => exact ⟨0, Nat.zero_le _, rfl, rfl⟩
      case round =>
        obtain ⟨k, hk, rfl, HK⟩ := hrel
        by_cases hlt : k < d.size
        · have hsn := take_snocB d k hlt
          rw [HK.out, Bool.true_and] at hsn
          by_cases hd : digB d[k] = true
          · have hk1 : (d.data.toList.take (k + 1)).all digB = true := by rw [hsn]; exact hd
            have HK1 := Lib.hid hk1
            have hd1 : 48 ≤ d[k].toNat ∧ d[k].toNat ≤ 57 := by simpa [digB] using hd
            have l1 : ¬ (d[k].toNat : Int) < 48 := by omega
            have l2 : ¬ 57 < (d[k].toNat : Int) := by omega
            clear hsn hd hk1 hd1
            go_wp2_with fail
            go_round
            case rel => exact ⟨k + 1, by omega, by go_num, HK1⟩
            case measure => simp [intOf]; omega
          · have hf : formB s = false := by
              rw [HB.out, ← List.take_append_drop (k + 1) d.data.toList, List.all_append, hsn]
              simp [hd]
            have HP : Hid (p = (0, 1)) := HR.out.symm.trans (spec_no hf)
            have hd1 : d[k].toNat < 48 ∨ 57 < d[k].toNat := by
              have : ¬ (48 ≤ d[k].toNat ∧ d[k].toNat ≤ 57) := by simpa [digB] using hd
              omega
            clear hf hsn hd
            rcases hd1 with hd1 | hd1
            · have l1 : (d[k].toNat : Int) < 48 := by omega
              clear hd1
              go_wp2_with fail
              go_ret2
              exact ⟨ret_pair HP.out, rfl⟩
            · have l1 : ¬ (d[k].toNat : Int) < 48 := by omega
              have l2 : 57 < (d[k].toNat : Int) := by omega
              clear hd1
              go_wp2_with fail
              go_ret2
              exact ⟨ret_pair HP.out, rfl⟩
        · have hall : d.data.toList.all digB = true := by
            have := HK.out
            rwa [List.take_of_length_le (by rw [len_size]; omega)] at this
          have HALL := Lib.hid hall
          have hform : formB s = true := HB.out.trans hall
          have hspec := spec_neg hform (by rw [HT.out]; omega)
          rw [HT.out, HR.out] at hspec
          have HSP := Lib.hid hspec
          clear hspec hform hall
          by_cases h19 : 19 < d.size
          · have HP : Hid (p = (0, 2)) := by
              have hv := val_long hd0 HZ.out HALL.out h19
              have h2 := HSP.out
              rwa [if_neg (by omega)] at h2
            have i19 : (19 : Int) < (d.size : Int) := by omega
            go_wp2_with fail
            go_ret2
            exact ⟨ret_pair HP.out, rfl⟩
          · have i19 : ¬ (19 : Int) < (d.size : Int) := by omega
            go_wp2_with fail
            go_loop [6, 7] (fun u i => URel d u i) (fun _ i => d.size - (intOf i).toNat)
            case atStart => exact ⟨0, 0, Nat.zero_le _, rfl, rfl, Int.le_refl _, rfl⟩
            case round =>
              obtain ⟨j, a, hj, rfl, rfl, ha, HA⟩ := hrel
              by_cases hlt2 : j < d.size
              · obtain ⟨q1, q2⟩ := dig_of_all d j hlt2 HALL.out
                have l1 : 48 ≤ (d[j].toNat : Int) := by omega
                have l2 : (d[j].toNat : Int) ≤ 57 := by omega
                have ha2 : a ≤ 1000000000000000000 := by have := val_short j (by omega) HALL.out; have := HA.out; omega
                have hvt := val_take d j hlt2
                have HVT := Lib.hid hvt
                clear hvt q1 q2
                go_wp2_with fail
                go_round
                case rel => exact ⟨j + 1, _, by omega, by go_num, rfl, by omega, by show _ = _; rw [HVT.out]; have := HA.out; omega⟩
                case measure => simp [intOf]; omega
              · have hva : a = val 0 d.data.toList := by
                  have := HA.out
                  rwa [List.take_of_length_le (by rw [len_size]; omega)] at this
                have HVA := Lib.hid hva
                clear hva HA
                by_cases hbig : 9223372036854775808 < a
                · have HP : Hid (p = (0, 2)) := by
                    have h2 := HSP.out
                    rwa [if_neg (by have := HVA.out; omega)] at h2
                  go_wp2_with fail
                  go_ret2
                  exact ⟨ret_pair HP.out, rfl⟩
                · have HP : Hid (p = (wrap64 (IntKind.u64.wrap (-a)), 0)) := by
                    have h2 := HSP.out
                    rw [if_pos (by have := HVA.out; omega), ← HVA.out] at h2
                    show _ = _
                    rw [neg_wrap a ha (by omega), h2]
                  go_wp2_with fail
                  go_ret2
                  exact ⟨ret_pair HP.out, rfl⟩

set_option maxHeartbeats 1000000 in
theorem refParse_pos (s : ByteArray) (w : World) (hs1 : s.size ≤ 5000) (hp45 : s.size = 0 ∨ ∃ h : 0 < s.size, s[0] ≠ 45) : Calls Tryd.prog 21 #[.string s] w fun e w' => e = .returned (.tuple #[.int .i64 (specP s).1, .int .i64 (specP s).2]) ∧ w = w' := by
  obtain ⟨p, hp⟩ : ∃ p, specP s = p := ⟨_, rfl⟩
  rw [hp]
  have HR := Lib.hid hp
  clear hp
  have ht := trim_pos s hp45
  have HT := Lib.hid ht
  clear ht
  by_cases h0 : s.size = 0
  · have hE : s = ⟨#[]⟩ := Go.WideShapes.bytes_inj (List.length_eq_zero_iff.1 ((len_size s).trans h0))
    have HP : Hid (p = (0, 1)) := HR.out.symm.trans (spec_no (form_empty HT.out h0 (by rw [hE]; rw [ByteArray.toList_eq]; rfl)))
    subst hE
    clear h0 hp45 hs1
    go_enter Tryd.func21, Tryd.ntmps21
    go_wp2_with fail
    go_ret2
    exact ⟨ret_pair HP.out, rfl⟩
  · have hd0 : 0 < s.size := by omega
    have hdz : ((s.size : Int) == 0) = false := beq_eq_false_iff_ne.2 (by omega)
    have h45 : s[0] ≠ 45 := by
      rcases hp45 with h | ⟨_, h⟩
      · omega
      · exact h
    have b45 : ((s[0].toNat : Int) == 45) = false := by
      simp; intro e; exact h45 (UInt8.toNat_inj.1 (by simpa using (by omega : s[0].toNat = 45)))
    clear hp45 h45 h0
    by_cases h48 : s[0] = 48
    · have hz : ((s[0].toNat : Int) == 48) = true := by rw [h48]; rfl
      by_cases hq : s.toList = [48]
      · have hs48 : (s.toList != [48]) = false := by simp [hq]
        have hs48b : (s.toList == [48]) = true := by simp [hq]
        have hl : s.data.toList = [48] := by rw [← ByteArray.toList_eq]; exact hq
        have h1 : s.size = 1 := by rw [← len_size, hl]; rfl
        have HB : Hid (formB s = s.data.toList.all digB) := by
          show formB s = _
          unfold formB
          rw [hl, show ([48] : List UInt8).all digB = true from by decide]; rfl
        have hsh : ¬ 19 < s.size := by omega
        clear hq hl h1 h48
        go_enter Tryd.func21, Tryd.ntmps21
        go_wp2_with fail
        go_loop [5] (fun i => LRel s i) (fun i => s.size - (intOf i).toNat)
        case atStart => exact ⟨0, Nat.zero_le _, rfl, rfl⟩
        case round =>
          obtain ⟨k, hk, rfl, HK⟩ := hrel
          by_cases hlt : k < s.size
          · have hsn := take_snocB s k hlt
            rw [HK.out, Bool.true_and] at hsn
            by_cases hd : digB s[k] = true
            · have hk1 : (s.data.toList.take (k + 1)).all digB = true := by rw [hsn]; exact hd
              have HK1 := Lib.hid hk1
              have hd1 : 48 ≤ s[k].toNat ∧ s[k].toNat ≤ 57 := by simpa [digB] using hd
              have l1 : ¬ (s[k].toNat : Int) < 48 := by omega
              have l2 : ¬ 57 < (s[k].toNat : Int) := by omega
              clear hsn hd hk1 hd1
              go_wp2_with fail
              go_round
              case rel => exact ⟨k + 1, by omega, by go_num, HK1⟩
              case measure => simp [intOf]; omega
            · have hf : formB s = false := by
                rw [HB.out, ← List.take_append_drop (k + 1) s.data.toList, List.all_append, hsn]
                simp [hd]
              have HP : Hid (p = (0, 1)) := HR.out.symm.trans (spec_no hf)
              have hd1 : s[k].toNat < 48 ∨ 57 < s[k].toNat := by
                have : ¬ (48 ≤ s[k].toNat ∧ s[k].toNat ≤ 57) := by simpa [digB] using hd
                omega
              clear hf hsn hd
              rcases hd1 with hd1 | hd1
              · have l1 : (s[k].toNat : Int) < 48 := by omega
                clear hd1
                go_wp2_with fail
                go_ret2
                exact ⟨ret_pair HP.out, rfl⟩
              · have l1 : ¬ (s[k].toNat : Int) < 48 := by omega
                have l2 : 57 < (s[k].toNat : Int) := by omega
                clear hd1
                go_wp2_with fail
                go_ret2
                exact ⟨ret_pair HP.out, rfl⟩
          · have hall : s.data.toList.all digB = true := by
              have := HK.out
              rwa [List.take_of_length_le (by rw [len_size]; omega)] at this
            have HALL := Lib.hid hall
            have hform : formB s = true := HB.out.trans hall
            have hspec := spec_pos hform (by rw [HT.out]; omega)
            rw [HT.out, HR.out] at hspec
            have HSP := Lib.hid hspec
            clear hspec hform hall
            by_cases h19 : 19 < s.size
            · exact absurd h19 hsh
            · have i19 : ¬ (19 : Int) < (s.size : Int) := by omega
              go_wp2_with fail
              go_loop [6, 7] (fun u i => URel s u i) (fun _ i => s.size - (intOf i).toNat)
              case atStart => exact ⟨0, 0, Nat.zero_le _, rfl, rfl, Int.le_refl _, rfl⟩
              case round =>
                obtain ⟨j, a, hj, rfl, rfl, ha, HA⟩ := hrel
                by_cases hlt2 : j < s.size
                · obtain ⟨q1, q2⟩ := dig_of_all s j hlt2 HALL.out
                  have l1 : 48 ≤ (s[j].toNat : Int) := by omega
                  have l2 : (s[j].toNat : Int) ≤ 57 := by omega
                  have ha2 : a ≤ 1000000000000000000 := by have := val_short j (by omega) HALL.out; have := HA.out; omega
                  have hvt := val_take s j hlt2
                  have HVT := Lib.hid hvt
                  clear hvt q1 q2
                  go_wp2_with fail
                  go_round
                  case rel => exact ⟨j + 1, _, by omega, by go_num, rfl, by omega, by show _ = _; rw [HVT.out]; have := HA.out; omega⟩
                  case measure => simp [intOf]; omega
                · have hva : a = val 0 s.data.toList := by
                    have := HA.out
                    rwa [List.take_of_length_le (by rw [len_size]; omega)] at this
                  have HVA := Lib.hid hva
                  clear hva HA
                  by_cases hbig : 9223372036854775807 < a
                  · have HP : Hid (p = (0, 2)) := by
                      have h2 := HSP.out
                      rwa [if_neg (by have := HVA.out; omega)] at h2
                    go_wp2_with fail
                    go_ret2
                    exact ⟨ret_pair HP.out, rfl⟩
                  · have HP : Hid (p = (a, 0)) := by
                      have h2 := HSP.out
                      rwa [if_pos (by have := HVA.out; omega), ← HVA.out] at h2
                    go_wp2_with fail
                    go_ret2
                    exact ⟨ret_pair HP.out, rfl⟩
      · have hs48 : (s.toList == [48]) = false := by simpa using hq
        have hs48' : (s.toList != [48]) = true := by rw [bne, hs48]; rfl
        have HP : Hid (p = (0, 1)) := HR.out.symm.trans (spec_no (form_zero HT.out hd0 h48 hs48))
        clear h48 hq
        go_enter Tryd.func21, Tryd.ntmps21
        go_wp2_with fail
        go_ret2
        exact ⟨ret_pair HP.out, rfl⟩
    · have hs48 : (s.toList == [48]) = false := by
        obtain ⟨r, hr⟩ := head_at s hd0
        rw [ByteArray.toList_eq, hr]; simp [h48]
      have HB := Lib.hid (form_all HT.out hd0 h48 hs48)
      have HZ := Lib.hid h48
      have hz : ((s[0].toNat : Int) == 48) = false := by
        simp; intro e; exact h48 (UInt8.toNat_inj.1 (by simpa using (by omega : s[0].toNat = 48)))
      clear h48 hs48
      go_enter Tryd.func21, Tryd.ntmps21
      go_wp2_with fail
      go_loop [5] (fun i => LRel s i) (fun i => s.size - (intOf i).toNat)
      case atStart => exact ⟨0, Nat.zero_le _, rfl, rfl⟩
      case round =>
        obtain ⟨k, hk, rfl, HK⟩ := hrel
        by_cases hlt : k < s.size
        · have hsn := take_snocB s k hlt
          rw [HK.out, Bool.true_and] at hsn
          by_cases hd : digB s[k] = true
          · have hk1 : (s.data.toList.take (k + 1)).all digB = true := by rw [hsn]; exact hd
            have HK1 := Lib.hid hk1
            have hd1 : 48 ≤ s[k].toNat ∧ s[k].toNat ≤ 57 := by simpa [digB] using hd
            have l1 : ¬ (s[k].toNat : Int) < 48 := by omega
            have l2 : ¬ 57 < (s[k].toNat : Int) := by omega
            clear hsn hd hk1 hd1
            go_wp2_with fail
            go_round
            case rel => exact ⟨k + 1, by omega, by go_num, HK1⟩
            case measure => simp [intOf]; omega
          · have hf : formB s = false := by
              rw [HB.out, ← List.take_append_drop (k + 1) s.data.toList, List.all_append, hsn]
              simp [hd]
            have HP : Hid (p = (0, 1)) := HR.out.symm.trans (spec_no hf)
            have hd1 : s[k].toNat < 48 ∨ 57 < s[k].toNat := by
              have : ¬ (48 ≤ s[k].toNat ∧ s[k].toNat ≤ 57) := by simpa [digB] using hd
              omega
            clear hf hsn hd
            rcases hd1 with hd1 | hd1
            · have l1 : (s[k].toNat : Int) < 48 := by omega
              clear hd1
              go_wp2_with fail
              go_ret2
              exact ⟨ret_pair HP.out, rfl⟩
            · have l1 : ¬ (s[k].toNat : Int) < 48 := by omega
              have l2 : 57 < (s[k].toNat : Int) := by omega
              clear hd1
              go_wp2_with fail
              go_ret2
              exact ⟨ret_pair HP.out, rfl⟩
        · have hall : s.data.toList.all digB = true := by
            have := HK.out
            rwa [List.take_of_length_le (by rw [len_size]; omega)] at this
          have HALL := Lib.hid hall
          have hform : formB s = true := HB.out.trans hall
          have hspec := spec_pos hform (by rw [HT.out]; omega)
          rw [HT.out, HR.out] at hspec
          have HSP := Lib.hid hspec
          clear hspec hform hall
          by_cases h19 : 19 < s.size
          · have HP : Hid (p = (0, 2)) := by
              have hv := val_long hd0 HZ.out HALL.out h19
              have h2 := HSP.out
              rwa [if_neg (by omega)] at h2
            have i19 : (19 : Int) < (s.size : Int) := by omega
            go_wp2_with fail
            go_ret2
            exact ⟨ret_pair HP.out, rfl⟩
          · have i19 : ¬ (19 : Int) < (s.size : Int) := by omega
            go_wp2_with fail
            go_loop [6, 7] (fun u i => URel s u i) (fun _ i => s.size - (intOf i).toNat)
            case atStart => exact ⟨0, 0, Nat.zero_le _, rfl, rfl, Int.le_refl _, rfl⟩
            case round =>
              obtain ⟨j, a, hj, rfl, rfl, ha, HA⟩ := hrel
              by_cases hlt2 : j < s.size
              · obtain ⟨q1, q2⟩ := dig_of_all s j hlt2 HALL.out
                have l1 : 48 ≤ (s[j].toNat : Int) := by omega
                have l2 : (s[j].toNat : Int) ≤ 57 := by omega
                have ha2 : a ≤ 1000000000000000000 := by have := val_short j (by omega) HALL.out; have := HA.out; omega
                have hvt := val_take s j hlt2
                have HVT := Lib.hid hvt
                clear hvt q1 q2
                go_wp2_with fail
                go_round
                case rel => exact ⟨j + 1, _, by omega, by go_num, rfl, by omega, by show _ = _; rw [HVT.out]; have := HA.out; omega⟩
                case measure => simp [intOf]; omega
              · have hva : a = val 0 s.data.toList := by
                  have := HA.out
                  rwa [List.take_of_length_le (by rw [len_size]; omega)] at this
                have HVA := Lib.hid hva
                clear hva HA
                by_cases hbig : 9223372036854775807 < a
                · have HP : Hid (p = (0, 2)) := by
                    have h2 := HSP.out
                    rwa [if_neg (by have := HVA.out; omega)] at h2
                  go_wp2_with fail
                  go_ret2
                  exact ⟨ret_pair HP.out, rfl⟩
                · have HP : Hid (p = (a, 0)) := by
                    have h2 := HSP.out
                    rwa [if_pos (by have := HVA.out; omega), ← HVA.out] at h2
                  go_wp2_with fail
                  go_ret2
                  exact ⟨ret_pair HP.out, rfl⟩

theorem refParse_any (s : ByteArray) (w : World) (hs1 : s.size ≤ 5000) : Calls Tryd.prog 21 #[.string s] w fun e w' => e = .returned (.tuple #[.int .i64 (specP s).1, .int .i64 (specP s).2]) ∧ w = w' := by
  by_cases h0 : s.size = 0
  · exact refParse_pos s w hs1 (Or.inl h0)
  · have hp : 0 < s.size := by omega
    by_cases h45 : s[0] = 45
    · exact refParse_neg s w hp hs1 h45
    · exact refParse_pos s w hs1 (Or.inr ⟨hp, h45⟩)

end Go.Proofs.YteikheaanefgbaaDoor
