/-
  NumSigns: THE LAW's CONTRACT: it answers true for every op, sign and count, in a world in which the listed variables lie as the program's text lays them; of what was there nothing has turned.
-/
import Derived.Test.YtgdchlgepgbhhaaDoorLaid
import Derived.Test.YtgdchlgepgbhhaaDoorSigns
namespace Go.Proofs.YtgdchlgepgbhhaaDoor
open Go.RowKit

/-- Whether number k is asked for by so many arguments. -/
def askB (args : Int) (k : Nat) : Bool := ((args == 2) && decide (k ≤ 16)) || ((args == 1) && decide (16 < k))
/-- What the law's loop has found behind k rounds. -/
def wantV (l : List UInt8) (args : Int) : Nat → Int
  | 0 => 0
  | k + 1 => if signTab.getD (k + 1) [] = l ∧ askB args (k + 1) = true then ((k + 1 : Nat) : Int) else wantV l args k

theorem want_yes (l : List UInt8) (args : Int) (k : Nat) (h : signTab.getD (k + 1) [] = l) (g : askB args (k + 1) = true) : wantV l args (k + 1) = ((k + 1 : Nat) : Int) := by
  rw [wantV, if_pos ⟨h, g⟩]
theorem want_no (l : List UInt8) (args : Int) (k : Nat) (h : ¬ (signTab.getD (k + 1) [] = l ∧ askB args (k + 1) = true)) : wantV l args (k + 1) = wantV l args k := by
  rw [wantV, if_neg h]

theorem sign_cases (l : List UInt8) : (∃ k : Nat, 1 ≤ k ∧ k ≤ 16 ∧ l = signTab.getD k []) ∨ l = [33] ∨ (∀ k : Nat, 1 ≤ k → k ≤ 18 → ¬ signTab.getD k [] = l) := by
  by_cases h : ∃ k : Nat, 1 ≤ k ∧ k ≤ 16 ∧ l = signTab.getD k []
  · exact Or.inl h
  · by_cases g : l = [33]
    · exact Or.inr (Or.inl g)
    · refine Or.inr (Or.inr fun k h1 h2 e => ?_)
      by_cases hk : k ≤ 16
      · exact h ⟨k, h1, hk, e.symm⟩
      · rcases (by omega : k = 17 ∨ k = 18) with rfl | rfl
        · exact h ⟨2, by omega, by omega, e.symm⟩
        · exact g e.symm

theorem want_none (l : List UInt8) (args : Int) (h : ∀ k : Nat, 1 ≤ k → k ≤ 18 → ¬ signTab.getD k [] = l) : ∀ k : Nat, k ≤ 18 → wantV l args k = 0
  | 0, _ => rfl
  | k + 1, hk => by rw [want_no l args k (fun c => h (k + 1) (by omega) hk c.1)]; exact want_none l args h k (by omega)
theorem find_none (l : List UInt8) (h : ∀ k : Nat, 1 ≤ k → k ≤ 18 → ¬ signTab.getD k [] = l) : ∀ n k : Nat, 1 ≤ k → k + n ≤ 19 → findN l k n = 0
  | 0, k, _, _ => rfl
  | n + 1, k, h1, h2 => by rw [find_miss l k n (h k h1 (by omega))]; exact find_none l h n (k + 1) (by omega) (by omega)
theorem want_off (l : List UInt8) (args : Int) (h1 : args ≠ 1) (h2 : args ≠ 2) : ∀ k : Nat, wantV l args k = 0
  | 0 => rfl
  | k + 1 => by
    have : askB args (k + 1) = false := by simp [askB, h1, h2]
    rw [want_no l args k (by simp [this])]; exact want_off l args h1 h2 k

theorem want_eq (s : ByteArray) (args : Int) : wantV s.data.toList args 18 = signedV s args := by
  unfold signedV
  generalize s.data.toList = l
  by_cases h1 : args = 1
  · subst h1
    rw [if_pos rfl]
    rcases sign_cases l with ⟨k, a, b, rfl⟩ | rfl | h
    · rcases (by omega : k = 1 ∨ k = 2 ∨ k = 3 ∨ k = 4 ∨ k = 5 ∨ k = 6 ∨ k = 7 ∨ k = 8 ∨ k = 9 ∨ k = 10 ∨ k = 11 ∨ k = 12 ∨ k = 13 ∨ k = 14 ∨ k = 15 ∨ k = 16) with rfl | rfl | rfl | rfl | rfl | rfl | rfl | rfl | rfl | rfl | rfl | rfl | rfl | rfl | rfl | rfl <;> decide
    · decide
    · rw [want_none l 1 h 18 (by omega), find_none l h 2 17 (by omega) (by omega)]
  · rw [if_neg h1]
    by_cases h2 : args = 2
    · subst h2
      rw [if_pos rfl]
      rcases sign_cases l with ⟨k, a, b, rfl⟩ | rfl | h
      · rcases (by omega : k = 1 ∨ k = 2 ∨ k = 3 ∨ k = 4 ∨ k = 5 ∨ k = 6 ∨ k = 7 ∨ k = 8 ∨ k = 9 ∨ k = 10 ∨ k = 11 ∨ k = 12 ∨ k = 13 ∨ k = 14 ∨ k = 15 ∨ k = 16) with rfl | rfl | rfl | rfl | rfl | rfl | rfl | rfl | rfl | rfl | rfl | rfl | rfl | rfl | rfl | rfl <;> decide
      · decide
      · rw [want_none l 2 h 18 (by omega), find_none l h 16 1 (by omega) (by omega)]
    · rw [if_neg h2, want_off l args h1 h2]

theorem refSign_to (op : Int) (d : ByteArray) (w : World) (h : Hid (signS op = d)) : Calls Tryd.prog 15 #[.int .i64 op] w fun e w' => e = .returned (.string d) ∧ Below w.heap.size w w' := by
  refine (refSign_any op w).mono ?_
  rintro e w' ⟨rfl, hb⟩
  exact ⟨ret_str h.out, hb⟩
theorem refLevel_to (op d : Int) (w : World) (h : Hid (levelV op = d)) : Calls Tryd.prog 19 #[.int .i64 op] w fun e w' => e = .returned (.int .i64 d) ∧ Below w.heap.size w w' := by
  refine (refLevel_any op w).mono ?_
  rintro e w' ⟨rfl, hb⟩
  exact ⟨ret_int h.out, hb⟩
theorem level_to (op d : Int) (w : World) (h : Hid (levelV op = d)) : Calls Tryd.prog 18 #[.int .i64 op] w fun e w' => e = .returned (.int .i64 d) ∧ w = w' := by
  refine (level_any op w).mono ?_
  rintro e w' ⟨rfl, rfl⟩
  exact ⟨ret_int h.out, rfl⟩
theorem signIs_to (op : Int) (d : ByteArray) (w : World) (G : Good w) (h : Hid (signS op = d)) : Calls Tryd.prog 17 #[.int .i64 op] w fun e w' => e = .returned (.string d) ∧ w = w' := by
  refine (sign_any op w G.signs).mono ?_
  rintro e w' ⟨rfl, rfl⟩
  exact ⟨ret_str h.out, rfl⟩
theorem signedIs_to (s : ByteArray) (args x : Int) (b : Bool) (w : World) (G : Good w) (h : Hid (signedV s args = x)) (hb : Hid ((x != 0) = b)) :
    Calls Tryd.prog 16 #[.string s, .int .i64 args] w fun e w' => e = .returned (.tuple #[.int .i64 x, .bool b]) ∧ w = w' := by
  refine (signed_any s args w G.signs).mono ?_
  rintro e w' ⟨rfl, rfl⟩
  have h' := h.out
  subst h'
  exact ⟨ret_ib rfl hb.out, rfl⟩

/-- The relation of the law's loop. -/
def Rel (s : ByteArray) (args : Int) (w1 : World) (want i : Value) (wr : World) : Prop :=
  ∃ k : Nat, 1 ≤ k ∧ k ≤ 19 ∧ i = .int .i64 k ∧ want = .int .i64 (wantV s.data.toList args (k - 1)) ∧ Below w1.heap.size w1 wr

set_option maxHeartbeats 1000000 in
theorem signs_walk (op : Int) (s : ByteArray) (args : Int) (w : World) (G : Good w) (hm : s.size ≤ 281474976710656) :
    Calls Tryd.prog 4 #[.int .i64 op, .string s, .int .i64 args] w fun e w' => e = .returned (.bool true) ∧ Below w.heap.size w w' := by
  obtain ⟨d, hd⟩ : ∃ d, signS op = d := ⟨_, rfl⟩
  obtain ⟨v, hv⟩ : ∃ v, levelV op = v := ⟨_, rfl⟩
  have HD := Lib.hid hd
  have HV := Lib.hid hv
  clear hd hv
  go_enter Tryd.func4, Tryd.ntmps4
  go_wp2_with fail
  refine (awake_true w G).mono ?_
  rintro e w1 ⟨rfl, b1⟩
  have G1 := G.below b1
  clear G
  by_cases hl : 100 < s.size
  · have hl' : (100 : Int) < (s.size : Int) := by omega
    go_wp2_with fail
    go_ret
    exact ⟨rfl, b1⟩
  · have hl' : ¬ (100 : Int) < (s.size : Int) := by omega
    go_wp2_with fail
    go_loopw [7, 8] (fun want i wr => Rel s args w1 want i wr) (fun _ i _ => 19 - (intOf i).toNat)
    case atStart => exact ⟨1, by omega, by omega, rfl, rfl, Below.refl _ _⟩
    case round =>
      obtain ⟨k, hk1, hk2, rfl, rfl, hb⟩ := hrel
      have hW := want_eq s args
      have HW := Lib.hid hW
      clear hW
      generalize hq : wantV s.data.toList args (k - 1) = q
      by_cases hlt : k ≤ 18
      · have hlt' : (k : Int) ≤ 18 := by omega
        obtain ⟨t, ht⟩ : ∃ t, signS (k : Int) = t := ⟨_, rfl⟩
        have ht2 : t = ⟨(signTab.getD k []).toArray⟩ := by rw [← ht]; unfold signS signL; rw [if_neg (by omega), Int.toNat_natCast]
        have HT := Lib.hid ht
        have hkk : k - 1 + 1 = k := by omega
        have hyes : signTab.getD k [] = s.data.toList → askB args k = true → wantV s.data.toList args k = k := fun a b => by
          have := want_yes s.data.toList args (k - 1) (by rw [hkk]; exact a) (by rw [hkk]; exact b)
          rwa [hkk] at this
        have hno : ¬ (signTab.getD k [] = s.data.toList ∧ askB args k = true) → wantV s.data.toList args k = q := fun a => by
          have := want_no s.data.toList args (k - 1) (by rw [hkk]; exact a)
          rwa [hkk, hq] at this
        have HY := Lib.hid hyes
        have HNO := Lib.hid hno
        have HQ := Lib.hid hq
        clear hq hyes hno hkk ht
        by_cases hm : signTab.getD k [] = s.data.toList
        · have hts : t = s := by rw [ht2, hm]
          have HM := Lib.hid hm
          clear ht2 hm
          subst hts
          rcases (by omega : args = 2 ∨ args = 1 ∨ (¬ args = 2 ∧ ¬ args = 1)) with rfl | rfl | ⟨a2, a1⟩
          · by_cases h16 : (k : Int) ≤ 16
            · have hask : askB 2 k = true := by simp [askB]; omega
              have hn := HY.out HM.out hask
              have HN := Lib.hid hn
              clear hn hask
              go_wp2_with fail
              refine (refSign_to (k : Int) _ _ HT).mono ?_
              rintro e w2 ⟨rfl, b2⟩
              go_wp2_with fail
              go_roundw
              case rel => exact ⟨k + 1, by omega, by omega, by go_num, by rw [Nat.add_sub_cancel]; rw [HN.out], hb.trans (b2.mono hb.size)⟩
              case measure => simp [intOf]; omega
            · have hask : askB 2 k = false := by simp [askB]; omega
              have hn := HNO.out (by rw [hask]; simp)
              have HN := Lib.hid hn
              clear hn hask
              go_wp2_with fail
              refine (refSign_to (k : Int) _ _ HT).mono ?_
              rintro e w2 ⟨rfl, b2⟩
              go_wp2_with fail
              go_roundw
              case rel => exact ⟨k + 1, by omega, by omega, by go_num, by rw [Nat.add_sub_cancel]; rw [HN.out], hb.trans (b2.mono hb.size)⟩
              case measure => simp [intOf]; omega
          · by_cases h16 : (k : Int) ≤ 16
            · have hask : askB 1 k = false := by simp [askB]; omega
              have hn := HNO.out (by rw [hask]; simp)
              have HN := Lib.hid hn
              clear hn hask
              go_wp2_with fail
              refine (refSign_to (k : Int) _ _ HT).mono ?_
              rintro e w2 ⟨rfl, b2⟩
              go_wp2_with fail
              go_roundw
              case rel => exact ⟨k + 1, by omega, by omega, by go_num, by rw [Nat.add_sub_cancel]; rw [HN.out], hb.trans (b2.mono hb.size)⟩
              case measure => simp [intOf]; omega
            · have hask : askB 1 k = true := by simp [askB]; omega
              have hn := HY.out HM.out hask
              have HN := Lib.hid hn
              clear hn hask
              go_wp2_with fail
              refine (refSign_to (k : Int) _ _ HT).mono ?_
              rintro e w2 ⟨rfl, b2⟩
              go_wp2_with fail
              go_roundw
              case rel => exact ⟨k + 1, by omega, by omega, by go_num, by rw [Nat.add_sub_cancel]; rw [HN.out], hb.trans (b2.mono hb.size)⟩
              case measure => simp [intOf]; omega
          · have hask : askB args k = false := by simp [askB, a2, a1]
            have hn := HNO.out (by rw [hask]; simp)
            have HN := Lib.hid hn
            have c2 : (args == 2) = false := by simpa using a2
            have c1 : (args == 1) = false := by simpa using a1
            clear hn hask a2 a1
            go_wp2_with fail
            refine (refSign_to (k : Int) _ _ HT).mono ?_
            rintro e w2 ⟨rfl, b2⟩
            go_wp2_with fail
            go_roundw
            case rel => exact ⟨k + 1, by omega, by omega, by go_num, by rw [Nat.add_sub_cancel]; rw [HN.out], hb.trans (b2.mono hb.size)⟩
            case measure => simp [intOf]; omega
        · have hn := HNO.out (fun c => hm c.1)
          have HN := Lib.hid hn
          have hne : (t.toList == s.toList) = false := by
            rw [ht2, ByteArray.toList_eq, ByteArray.toList_eq]; simpa using hm
          clear hn ht2 hm
          go_wp2_with fail
          refine (refSign_to (k : Int) _ _ HT).mono ?_
          rintro e w2 ⟨rfl, b2⟩
          go_wp2_with fail
          go_roundw
          case rel => exact ⟨k + 1, by omega, by omega, by go_num, by rw [Nat.add_sub_cancel]; rw [HN.out], hb.trans (b2.mono hb.size)⟩
          case measure => simp [intOf]; omega
      · obtain rfl : k = 19 := by omega
        have hx : signedV s args = q := by rw [← HW.out]; exact hq
        have HX := Lib.hid hx
        have G2 := G1.below hb
        have c1 := b1.trans (hb.mono b1.size)
        clear hx hq
        by_cases hz : q = 0
        · have z1 : (q != 0) = false := by simpa using hz
          have Z1 := Lib.hid z1
          clear hz
          go_wp2_with fail
          refine (signedIs_to s args q false _ G2 HX Z1).mono ?_
          rintro e w' ⟨rfl, rfl⟩
          go_wp2_with fail
          refine (signIs_to op d _ G2 HD).mono ?_
          rintro e w' ⟨rfl, rfl⟩
          go_wp2_with fail
          refine (refSign_to op d _ HD).mono ?_
          rintro e w3 ⟨rfl, b3⟩
          go_wp2_with fail
          refine (level_to op v _ HV).mono ?_
          rintro e w' ⟨rfl, rfl⟩
          go_wp2_with fail
          refine (refLevel_to op v _ HV).mono ?_
          rintro e w4 ⟨rfl, b4⟩
          go_wp2_with fail
          go_ret
          exact ⟨rfl, (c1.trans (b3.mono c1.size)).trans (b4.mono (Nat.le_trans c1.size b3.size))⟩
        · have z1 : (q != 0) = true := by simpa using hz
          have Z1 := Lib.hid z1
          clear hz
          go_wp2_with fail
          refine (signedIs_to s args q true _ G2 HX Z1).mono ?_
          rintro e w' ⟨rfl, rfl⟩
          go_wp2_with fail
          refine (signIs_to op d _ G2 HD).mono ?_
          rintro e w' ⟨rfl, rfl⟩
          go_wp2_with fail
          refine (refSign_to op d _ HD).mono ?_
          rintro e w3 ⟨rfl, b3⟩
          go_wp2_with fail
          refine (level_to op v _ HV).mono ?_
          rintro e w' ⟨rfl, rfl⟩
          go_wp2_with fail
          refine (refLevel_to op v _ HV).mono ?_
          rintro e w4 ⟨rfl, b4⟩
          go_wp2_with fail
          go_ret
          exact ⟨rfl, (c1.trans (b3.mono c1.size)).trans (b4.mono (Nat.le_trans c1.size b3.size))⟩

end Go.Proofs.YtgdchlgepgbhhaaDoor
