/-
  CONTRACTS: num.Text at every number, num.Parse where it succeeds, and the anchor 'awake', which answers true; each in a world in which the listed package-level variables lie as the program's text lays them ('Good'). Of what was there nothing has turned.
-/
import Derived.Test.YtgdchlgepgbhhaaDoorText
import Derived.WalkKit
import Derived.WalkSpells
import Derived.WalkLawsBesides
import Derived.Lib.Hide
import Derived.Lib.AppendIntMem
import Derived.Lib.AtoiErrMem
import Derived.Lib.AtoiTie
namespace Go.Proofs.YtgdchlgepgbhhaaDoor
open Go.RowKit

theorem gSigns : Tryd.prog.globalNamed "truant/num.signs" = some 0 := by kernel_rfl
theorem gRange : Tryd.prog.globalNamed "strconv.ErrRange" = some 2 := by kernel_rfl
theorem gPow : Tryd.prog.globalNamed "internal/strconv.uint64pow10" = some 3 := by kernel_rfl

/-- What the laws' rows list, as the contracts want it. -/
structure Good (w : World) : Prop where
  signs : SignsIn w
  pow : Lib.TabIs Tryd.prog w "internal/strconv.uint64pow10" .u64 Lib.pow10Tab
  rng : ∃ tp p, w.var? Tryd.prog "strconv.ErrRange" = some #[.iface tp p]
  size : 6 ≤ w.heap.size

theorem Good.below {w w' : World} (h : Good w) (hb : Below w.heap.size w w') : Good w' where
  signs := fun i hi => (hb.cell (p := ⟨0, i, none⟩) (by have := h.size; show 0 < _; omega)).trans (h.signs i hi)
  pow := var?_below hb gPow (by have := h.size; omega) h.pow
  rng := by obtain ⟨tp, p, hv⟩ := h.rng; exact ⟨tp, p, var?_below hb gRange (by have := h.size; omega) hv⟩
  size := Nat.le_trans h.size hb.size

set_option maxHeartbeats 400000 in
theorem text_any (n : Int) (w : World) (G : Good w) (h0 : -9223372036854775808 ≤ n) (h1 : n ≤ 9223372036854775807) :
    Calls Tryd.prog 22 #[.int .i64 n] w fun e w' => e = .returned (.string ⟨(Lib.itoa n).toArray⟩) ∧ Below w.heap.size w w' := by
  obtain ⟨s, hs⟩ : ∃ s : ByteArray, s = ⟨(Lib.itoa n).toArray⟩ := ⟨_, rfl⟩
  have hc : Calls Tryd.prog 43 #[.int .i64 n] w fun e w' => e = .returned (.string s) ∧ Below w.heap.size w w' := by
    refine (Tryd.strconv_Itoa n h0 h1 w G.pow).mono ?_
    rintro e w' ⟨rfl, k, os, rfl⟩
    exact ⟨ret_str hs.symm, Lib.below_grow _ _ (Nat.le_refl _) _ _⟩
  rw [← hs]
  have HC := Lib.hid hc
  clear hc hs h0 h1
  go_enter Tryd.func22, Tryd.ntmps22
  go_wp2_with (go_at_call 43; refine HC.out.mono ?_; rintro e w' ⟨rfl, hb⟩)
  go_ret
  exact ⟨rfl, hb⟩

set_option maxHeartbeats 400000 in
theorem parse_ok (s : ByteArray) (v : Int) (w : World) (hlim : s.size ≤ 281474976710656) (hf : formB s = true) (h : Lib.atoiAll s.data.toList = .ok v) :
    Calls Tryd.prog 20 #[.string s] w fun e w' => e = .returned (.tuple #[.int .i64 v, .int .i64 0]) ∧ Below w.heap.size w w' := by
  have hc : Calls Tryd.prog 42 #[.string s] w fun e w' => e = .returned (.tuple #[.int .i64 v, .nilIface]) ∧ Below w.heap.size w w' := by
    refine (Tryd.strconv_Atoi_ok s (by omega) v h w).mono ?_
    rintro e w' ⟨rfl, rfl | ⟨t, rfl⟩⟩
    · exact ⟨rfl, Below.refl _ _⟩
    · exact ⟨rfl, Lib.bytesWorld_below _ _ _⟩
  have hi : Calls Tryd.prog 41 #[.string s] w fun e w' => e = .returned (.bool true) ∧ w = w' := by
    rw [← hf]
    exact isForm_any s w (by unfold maxLen; omega)
  have HC := Lib.hid hc
  have HI := Lib.hid hi
  clear hc hi h hf hlim
  go_enter Tryd.func20, Tryd.ntmps20
  go_wp2_with (first | (go_at_call 41; refine HI.out.mono ?_; rintro e w' ⟨rfl, rfl⟩) | (go_at_call 42; refine HC.out.mono ?_; rintro e w' ⟨rfl, hb⟩))
  go_ret2
  exact ⟨rfl, hb⟩

theorem do_c1 (w : World) : Calls Tryd.prog 11 #[.int .i64 10, .int .i64 (-5), .int .i64 1] w fun e w' => e = .returned (.tuple #[.int .i64 (-3), .int .i64 0]) ∧ w = w' := by
  refine (do_10 (-5) 1 w).mono ?_
  rintro e w' ⟨rfl, rfl⟩
  exact ⟨ret2_int (by decide) (by decide), rfl⟩
theorem do_c2 (w : World) : Calls Tryd.prog 11 #[.int .i64 4, .int .i64 (-9223372036854775808), .int .i64 (-1)] w fun e w' => e = .returned (.tuple #[.int .i64 (-9223372036854775808), .int .i64 0]) ∧ w = w' := by
  refine (do_4 (-9223372036854775808) (-1) w).mono ?_
  rintro e w' ⟨rfl, rfl⟩
  exact ⟨ret2_int (by decide +kernel) (by decide), rfl⟩
theorem do_c3 (w : World) : Calls Tryd.prog 11 #[.int .i64 5, .int .i64 5, .int .i64 0] w fun e w' => e = .returned (.tuple #[.int .i64 0, .int .i64 11]) ∧ w = w' := by
  refine (do_5 5 0 w).mono ?_
  rintro e w' ⟨rfl, rfl⟩
  exact ⟨ret2_int (by decide) (by decide), rfl⟩
theorem do_c4 (w : World) : Calls Tryd.prog 11 #[.int .i64 19, .int .i64 1, .int .i64 1] w fun e w' => e = .returned (.tuple #[.int .i64 0, .int .i64 9]) ∧ w = w' := by
  refine (do_none 19 1 1 w (by omega)).mono ?_
  rintro e w' ⟨rfl, rfl⟩
  exact ⟨ret2_int (by decide) (by decide), rfl⟩
theorem parse_c (w : World) : Calls Tryd.prog 20 #[.string ⟨#[45, 49, 50]⟩] w fun e w' => e = .returned (.tuple #[.int .i64 (-12), .int .i64 0]) ∧ Below w.heap.size w w' :=
  parse_ok ⟨#[45, 49, 50]⟩ (-12) w (by decide) (by decide) (by decide)
theorem signed_c (w : World) (G : Good w) : Calls Tryd.prog 16 #[.string ⟨#[45]⟩, .int .i64 1] w fun e w' => e = .returned (.tuple #[.int .i64 17, .bool true]) ∧ w = w' := by
  refine (signed_any ⟨#[45]⟩ 1 w G.signs).mono ?_
  rintro e w' ⟨rfl, rfl⟩
  exact ⟨ret_ib (by decide) (by decide), rfl⟩
theorem sign_c (w : World) (G : Good w) : Calls Tryd.prog 17 #[.int .i64 9] w fun e w' => e = .returned (.string ⟨#[60, 60]⟩) ∧ w = w' := by
  refine (sign_any 9 w G.signs).mono ?_
  rintro e w' ⟨rfl, rfl⟩
  exact ⟨ret_str (by decide), rfl⟩
theorem level_c (w : World) : Calls Tryd.prog 18 #[.int .i64 8] w fun e w' => e = .returned (.int .i64 4) ∧ w = w' := level_any 8 w
theorem swap_c (w : World) : Calls Tryd.prog 24 #[.int .i64 14] w fun e w' => e = .returned (.int .i64 16) ∧ w = w' := swap_any 14 w
theorem text_c (w : World) (G : Good w) : Calls Tryd.prog 22 #[.int .i64 (-7)] w fun e w' => e = .returned (.string ⟨#[45, 55]⟩) ∧ Below w.heap.size w w' := by
  refine (text_any (-7) w G (by decide) (by decide)).mono ?_
  rintro e w' ⟨rfl, hb⟩
  refine ⟨ret_str ?_, hb⟩
  rw [Lib.itoa, if_pos (by decide), Lib.decDigits, dif_pos (by decide)]; rfl

set_option maxHeartbeats 400000 in
theorem awake_true (w : World) (G : Good w) : Calls Tryd.prog 10 #[] w fun e w' => e = .returned (.bool true) ∧ Below w.heap.size w w' := by
  go_enter Tryd.func10, Tryd.ntmps10
  go_wp2_with fail
  refine (do_c1 _).mono ?_
  rintro e w' ⟨rfl, rfl⟩
  go_wp2_with fail
  refine (do_c2 _).mono ?_
  rintro e w' ⟨rfl, rfl⟩
  go_wp2_with fail
  refine (do_c3 _).mono ?_
  rintro e w' ⟨rfl, rfl⟩
  go_wp2_with fail
  refine (do_c4 _).mono ?_
  rintro e w' ⟨rfl, rfl⟩
  go_wp2_with fail
  refine (parse_c _).mono ?_
  rintro e w1 ⟨rfl, hb1⟩
  have G1 := G.below hb1
  go_wp2_with fail
  refine (signed_c _ G1).mono ?_
  rintro e w' ⟨rfl, rfl⟩
  go_wp2_with fail
  refine (sign_c _ G1).mono ?_
  rintro e w' ⟨rfl, rfl⟩
  go_wp2_with fail
  refine (level_c _).mono ?_
  rintro e w' ⟨rfl, rfl⟩
  go_wp2_with fail
  refine (swap_c _).mono ?_
  rintro e w' ⟨rfl, rfl⟩
  go_wp2_with fail
  refine (text_c _ G1).mono ?_
  rintro e w2 ⟨rfl, hb2⟩
  go_wp2_with fail
  go_ret
  exact ⟨rfl, hb1.trans (hb2.mono hb1.size)⟩

end Go.Proofs.YtgdchlgepgbhhaaDoor
