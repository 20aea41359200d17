/-
  CONTRACT: signAt at every text of at most 2^48 bytes and every place in it, where the table of signs lies as the program's text lays it; of what was there nothing has turned.
-/
import Derived.Test.YteikheaanefgbaaDoorTok
namespace Go.Proofs.YteikheaanefgbaaDoor
open Go.RowKit

theorem pre2 (l d : List UInt8) (hd : d.length = 2) : Lib.hasPrefix l d = (l.take 2 == d) := by
  rw [← Lib.hasPrefix_of_take, hd]
  by_cases h : 2 ≤ l.length
  · rw [decide_eq_true h, Bool.true_and]
  · rw [decide_eq_false h, Bool.false_and]
    symm
    rw [beq_eq_false_iff_ne]
    intro e
    have := congrArg List.length e
    rw [List.length_take, hd] at this
    omega
theorem long_two : ∀ j : Nat, j < 9 → (longTab.getD j []).length = 2 := by decide
theorem short_index (j : Nat) (hj : j < 19) (w : World) : (Instr.index 9 (.string ⟨#[43, 45, 42, 47, 37, 38, 124, 94, 60, 62, 33, 61, 46, 44, 59, 40, 41, 123, 125]⟩) (.int .i64 j)).run Tryd.prog w = .ok (.int .u8 (shortTab.getD j 0).toNat) w := by
  rw [run_index_string w 9 _ .i64 j Tryd.underlying9]
  rcases (by omega : j = 0 ∨ j = 1 ∨ j = 2 ∨ j = 3 ∨ j = 4 ∨ j = 5 ∨ j = 6 ∨ j = 7 ∨ j = 8 ∨ j = 9 ∨ j = 10 ∨ j = 11 ∨ j = 12 ∨ j = 13 ∨ j = 14 ∨ j = 15 ∨ j = 16 ∨ j = 17 ∨ j = 18) with rfl | rfl | rfl | rfl | rfl | rfl | rfl | rfl | rfl | rfl | rfl | rfl | rfl | rfl | rfl | rfl | rfl | rfl | rfl <;> rfl
theorem short_step (k : Nat) (c : UInt8) (h : k < 19) : (shortTab.drop k).contains c = (c == shortTab.getD k 0 || (shortTab.drop (k + 1)).contains c) := by
  rw [List.drop_eq_getElem_cons (show k < shortTab.length from h), List.contains_cons, List.getD_eq_getElem?_getD, List.getElem?_eq_getElem (show k < shortTab.length from h)]; rfl

def SRel (W : World) (c : UInt8) (b : Bool) (i : Value) (wr : World) : Prop := ∃ j n : Nat, j ≤ 19 ∧ i = .int .i64 j ∧ wr = W.drewN n ∧ Hid (b = (shortTab.drop j).contains c)
theorem below_drewN {B : Nat} {a w : World} (h : Below B a w) (n : Nat) : Below B a (w.drewN n) := ⟨h.os, h.tape, h.output, h.size, h.block⟩

set_option maxHeartbeats 400000 in
theorem signAt_any (s : ByteArray) (k : Nat) (r : Value) (w : World) (hs : s.size ≤ 281474976710656) (hk : k < s.size) (hK : LongsIn w) (hr : Hid (tkOf s k (signT (s.data.toList.drop k) s[k]) = r)) :
    Calls Tryd.prog 34 #[.string s, .int .i64 k] w fun e w' => e = .returned r ∧ Below w.heap.size w w' := by
  have hK2 := hK.alloc (.cells #[.int .i64 0, .string ⟨#[]⟩, .int .i64 0] 32)
  obtain ⟨t, fr, hg⟩ := hK2
  have HG := Lib.hid hg
  clear hg hK
  obtain ⟨b, hb⟩ : ∃ b, b = longB (s.data.toList.drop k) := ⟨_, rfl⟩
  have HR : Hid (tkOf s k (if b then ⟨0, 4, 2⟩ else if shortB s[k] then ⟨0, 4, 1⟩ else ⟨1, 0, 0⟩) = r) := by
    show _ = _
    rw [← hr.out, hb]; rfl
  have HB := Lib.hid hb
  have hx := drop_extract s k
  have hx2 := cut_extract s k (k + 2)
  rw [show k + 2 - k = 2 by omega] at hx2
  have HX := Lib.hid hx
  have HX2 := Lib.hid hx2
  clear hb hr hx hx2
  go_enter Tryd.func34, Tryd.ntmps34
  go_wp2_with (refine wpList_load_row rfl 64 _ rfl 1 rfl t tabG fr _ HG.out Tryd.underlying64 rfl info64 ?_)
  go_loop [10] (fun i => ∃ j : Nat, j ≤ 9 ∧ i = .int .i64 j ∧ Hid (b = (longTab.drop j).contains ((s.data.toList.drop k).take 2))) (fun i => 9 - (intOf i).toNat)
  case atStart => exact ⟨0, by omega, rfl, HB⟩
  case round =>
    obtain ⟨j, hj, rfl, HJ⟩ := hrel
    by_cases hlt : j < 9
    · have hix := longs_index j hlt
      have hst := contains_step longTab j ((s.data.toList.drop k).take 2) hlt
      rw [← HJ.out] at hst
      have HST := Lib.hid hst
      have h2 := long_two j hlt
      clear hst
      generalize longTab.getD j [] = d at hix HST h2
      have hp := pre2 (s.data.toList.drop k) d h2
      cases hm : ((s.data.toList.drop k).take 2 == d) with
      | true =>
        have HP : Hid (Lib.hasPrefix (s.extract k s.size).data.toList (⟨d.toArray⟩ : ByteArray).data.toList = true) := by
          show _ = _
          rw [HX.out]; show Lib.hasPrefix _ d = true; rw [hp, hm]
        have hd : (⟨d.toArray⟩ : ByteArray) = s.extract k (k + 2) := str_eq (by rw [HX2.out]; exact (beq_iff_eq.1 hm).symm)
        have hbt : b = true := by rw [HST.out, hm]; rfl
        have HR2 : Hid (tkV 4 ⟨d.toArray⟩ k 0 = r) := by
          show _ = _
          rw [← HR.out, hbt, hd]; rfl
        have := HR2.out
        subst this
        clear hm hd HST HJ hp hbt h2
        go_wp2_with (go_at_call 29; refine (hasPre _ _ true _ HP).mono ?_; rintro e w' ⟨rfl, rfl⟩)
        exact bodyPost_ret (v := tkV 4 ⟨d.toArray⟩ k 0) (by simp [results, Tryd.results34, go_sem, tkV]) rfl ⟨rfl, (Below.refl _ _).alloc (Nat.le_refl _) _⟩
      | false =>
        have HP : Hid (Lib.hasPrefix (s.extract k s.size).data.toList (⟨d.toArray⟩ : ByteArray).data.toList = false) := by
          show _ = _
          rw [HX.out]; show Lib.hasPrefix _ d = false; rw [hp, hm]
        have HB2 : Hid (b = (longTab.drop (j + 1)).contains ((s.data.toList.drop k).take 2)) := by
          show _ = _
          rw [HST.out, hm]; rfl
        clear hm HST HJ hp h2
        go_wp2_with (go_at_call 29; refine (hasPre _ _ false _ HP).mono ?_; rintro e w' ⟨rfl, rfl⟩)
        go_round
        case rel => exact ⟨j + 1, by omega, by go_num, HB2⟩
        case measure => simp [intOf]; omega
    · have hbf : b = false := by rw [HJ.out, show j = 9 by omega]; rfl
      subst hbf
      obtain ⟨b, hb⟩ : ∃ b, b = shortB s[k] := ⟨_, rfl⟩
      have HR3 : Hid (tkOf s k (if b then ⟨0, 4, 1⟩ else ⟨1, 0, 0⟩) = r) := by
        show _ = _
        rw [← HR.out, hb]; rfl
      have HB2 : Hid (b = (shortTab.drop 0).contains s[k]) := hb
      clear HJ HR HB hb
      go_wp2_with fail
      go_loopw [22] (fun i wr => SRel (w.alloc (.cells #[.int .i64 0, .string ⟨#[]⟩, .int .i64 0] 32)) s[k] b i wr) (fun i _ => 19 - (intOf i).toNat)
      case atStart => exact ⟨0, 0, by omega, rfl, rfl, HB2⟩
      case round =>
        obtain ⟨i, n, hi, rfl, rfl, HI⟩ := hrel
        by_cases hlt2 : i < 19
        · have hix := short_index i hlt2
          have hst := short_step i s[k] hlt2
          rw [← HI.out] at hst
          have HST := Lib.hid hst
          clear hst
          generalize shortTab.getD i 0 = d at hix HST
          by_cases hm : d = s[k]
          · subst hm
            have hbt : b = true := by rw [HST.out]; simp
            subst hbt
            have HR4 : Hid (tkV 4 (s.extract k (k + 1)) k 0 = r) := HR3.out
            have := HR4.out
            subst this
            clear HST HI HR3 HR4
            go_wp2_with fail
            go_quiet (fail)
            go_wp2_with fail
            exact bodyPost_ret (v := tkV 4 (s.extract k (k + 1)) k 0) (by simp [results, Tryd.results34, go_sem, tkV]) rfl ⟨rfl, below3 (below_drewN (Below.refl _ _) _) _ _ _⟩
          · have HI2 : Hid (b = (shortTab.drop (i + 1)).contains s[k]) := by
              show _ = _
              rw [HST.out, beq_eq_false_iff_ne.2 (fun e => hm e.symm)]; rfl
            have hm1 : ((d.toNat : Int) == (s[k].toNat : Int)) = false := beq_eq_false_iff_ne.2 (fun e => hm (UInt8.toNat_inj.1 (by omega)))
            have hm2 : (d.toNat == s[k].toNat) = false := beq_eq_false_iff_ne.2 (fun e => hm (UInt8.toNat_inj.1 e))
            clear hm HST HI
            go_wp2_with fail
            go_quiet (fail)
            go_wp2_with fail
            go_roundw
            case rel => exact ⟨i + 1, _, by omega, by go_num, rfl, HI2⟩
            case measure => simp [intOf]; omega
        · have hbf : b = false := by rw [HI.out, show i = 19 by omega]; rfl
          subst hbf
          have HR4 : Hid (tkV 0 ⟨#[]⟩ 0 1 = r) := HR3.out
          have := HR4.out
          subst this
          go_wp2_with fail
          exact bodyPost_ret (v := tkV 0 ⟨#[]⟩ 0 1) (by simp [results, Tryd.results34, go_sem, tkV]) rfl ⟨rfl, below3 (below_drewN (Below.refl _ _) _) _ _ _⟩

end Go.Proofs.YteikheaanefgbaaDoor
