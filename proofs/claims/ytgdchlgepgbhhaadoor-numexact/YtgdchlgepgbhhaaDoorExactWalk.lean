/-
  NumExact: THE LAW's CONTRACT: it answers true for every op, x and y that an int holds, in a world in which the listed variables lie as the program's text lays them; of what was there nothing has turned.
-/
import Derived.Test.YtgdchlgepgbhhaaDoorLaid
import Derived.Test.YtgdchlgepgbhhaaDoorRefDo
namespace Go.Proofs.YtgdchlgepgbhhaaDoor
open Go.RowKit

theorem exDo_to (op x y v f : Int) (w : World) (hv : Hid (doV op x y = v)) (hf : Hid (doE op y = f)) : Calls Tryd.prog 11 #[.int .i64 op, .int .i64 x, .int .i64 y] w fun e w' => e = .returned (.tuple #[.int .i64 v, .int .i64 f]) ∧ w = w' := by
  refine (do_any op x y w).mono ?_
  rintro e w' ⟨rfl, rfl⟩
  exact ⟨ret2_int hv.out hf.out, rfl⟩
theorem exRef_to (op x y v f : Int) (w : World) (hxy : Hid (Int64 x ∧ Int64 y)) (hv : Hid (doV op x y = v)) (hf : Hid (doE op y = f)) : Calls Tryd.prog 12 #[.int .i64 op, .int .i64 x, .int .i64 y] w fun e w' => e = .returned (.tuple #[.int .i64 v, .int .i64 f]) ∧ Below w.heap.size w w' :=
  as_want (refDo_any op x y hxy.out.1 hxy.out.2 w) hv.out hf.out
theorem exBin_to (op : Int) (b : Bool) (w : World) (h : Hid (binB op = b)) : Calls Tryd.prog 13 #[.int .i64 op] w fun e w' => e = .returned (.bool b) ∧ w = w' := by
  refine (isBinary_any op w).mono ?_
  rintro e w' ⟨rfl, rfl⟩
  exact ⟨ret_bool h.out, rfl⟩
theorem exUn_to (op : Int) (b : Bool) (w : World) (h : Hid (unB op = b)) : Calls Tryd.prog 14 #[.int .i64 op] w fun e w' => e = .returned (.bool b) ∧ w = w' := by
  refine (isUnary_any op w).mono ?_
  rintro e w' ⟨rfl, rfl⟩
  exact ⟨ret_bool h.out, rfl⟩

set_option maxHeartbeats 1000000 in
theorem exact_walk (op x y : Int) (w : World) (G : Good w) (hx0 : -9223372036854775808 ≤ x) (hx1 : x ≤ 9223372036854775807) (hy0 : -9223372036854775808 ≤ y) (hy1 : y ≤ 9223372036854775807) :
    Calls Tryd.prog 3 #[.int .i64 op, .int .i64 x, .int .i64 y] w fun e w' => e = .returned (.bool true) ∧ Below w.heap.size w w' := by
  have HXY : Hid (Int64 x ∧ Int64 y) := Lib.hid ⟨⟨hx0, hx1⟩, ⟨hy0, hy1⟩⟩
  clear hx0 hx1 hy0 hy1
  obtain ⟨v, hv⟩ : ∃ v, doV op x y = v := ⟨_, rfl⟩
  obtain ⟨f, hf⟩ : ∃ f, doE op y = f := ⟨_, rfl⟩
  have HV := Lib.hid hv
  have HF := Lib.hid hf
  clear hv hf
  rcases (by omega : op < 1 ∨ (1 ≤ op ∧ op ≤ 16) ∨ op = 17 ∨ op = 18 ∨ 18 < op) with h | ⟨h, h'⟩ | h | h | h
  · have hb : Hid (binB op = false) := Lib.hid (by unfold binB; rw [decide_eq_false (show ¬ 1 ≤ op by omega)]; rfl)
    have n17 : (op == 17) = false := beq_eq_false_iff_ne.2 (by omega)
    have n18 : (op == 18) = false := beq_eq_false_iff_ne.2 (by omega)
    have hu : Hid (unB op = false) := Lib.hid (by unfold unB; rw [n17, n18]; rfl)
    have h1 : ¬ 1 ≤ op := by omega
    clear h
    go_enter Tryd.func3, Tryd.ntmps3
    go_wp2_with fail
    refine (awake_true w G).mono ?_
    rintro e w1 ⟨rfl, hb1⟩
    go_wp2_with fail
    refine (exDo_to op x y v f _ HV HF).mono ?_
    rintro e w' ⟨rfl, rfl⟩
    go_wp2_with fail
    refine (exRef_to op x y v f _ HXY HV HF).mono ?_
    rintro e w2 ⟨rfl, hb2⟩
    go_wp2_with fail
    refine (exBin_to op false _ hb).mono ?_
    rintro e w' ⟨rfl, rfl⟩
    go_wp2_with fail
    refine (exUn_to op false _ hu).mono ?_
    rintro e w' ⟨rfl, rfl⟩
    go_wp2_with fail
    go_ret
    exact ⟨rfl, hb1.trans (hb2.mono hb1.size)⟩
  · have hb : Hid (binB op = true) := Lib.hid (by unfold binB; rw [decide_eq_true h, decide_eq_true h']; rfl)
    have n17 : (op == 17) = false := beq_eq_false_iff_ne.2 (by omega)
    have n18 : (op == 18) = false := beq_eq_false_iff_ne.2 (by omega)
    have hu : Hid (unB op = false) := Lib.hid (by unfold unB; rw [n17, n18]; rfl)
    go_enter Tryd.func3, Tryd.ntmps3
    go_wp2_with fail
    refine (awake_true w G).mono ?_
    rintro e w1 ⟨rfl, hb1⟩
    go_wp2_with fail
    refine (exDo_to op x y v f _ HV HF).mono ?_
    rintro e w' ⟨rfl, rfl⟩
    go_wp2_with fail
    refine (exRef_to op x y v f _ HXY HV HF).mono ?_
    rintro e w2 ⟨rfl, hb2⟩
    go_wp2_with fail
    refine (exBin_to op true _ hb).mono ?_
    rintro e w' ⟨rfl, rfl⟩
    go_wp2_with fail
    refine (exUn_to op false _ hu).mono ?_
    rintro e w' ⟨rfl, rfl⟩
    go_wp2_with fail
    go_ret
    exact ⟨rfl, hb1.trans (hb2.mono hb1.size)⟩
  · subst h
    have hb : Hid (binB 17 = false) := Lib.hid (by decide)
    have hu : Hid (unB 17 = true) := Lib.hid (by decide)
    go_enter Tryd.func3, Tryd.ntmps3
    go_wp2_with fail
    refine (awake_true w G).mono ?_
    rintro e w1 ⟨rfl, hb1⟩
    go_wp2_with fail
    refine (exDo_to 17 x y v f _ HV HF).mono ?_
    rintro e w' ⟨rfl, rfl⟩
    go_wp2_with fail
    refine (exRef_to 17 x y v f _ HXY HV HF).mono ?_
    rintro e w2 ⟨rfl, hb2⟩
    go_wp2_with fail
    refine (exBin_to 17 false _ hb).mono ?_
    rintro e w' ⟨rfl, rfl⟩
    go_wp2_with fail
    refine (exUn_to 17 true _ hu).mono ?_
    rintro e w' ⟨rfl, rfl⟩
    go_wp2_with fail
    go_ret
    exact ⟨rfl, hb1.trans (hb2.mono hb1.size)⟩
  · subst h
    have hb : Hid (binB 18 = false) := Lib.hid (by decide)
    have hu : Hid (unB 18 = true) := Lib.hid (by decide)
    go_enter Tryd.func3, Tryd.ntmps3
    go_wp2_with fail
    refine (awake_true w G).mono ?_
    rintro e w1 ⟨rfl, hb1⟩
    go_wp2_with fail
    refine (exDo_to 18 x y v f _ HV HF).mono ?_
    rintro e w' ⟨rfl, rfl⟩
    go_wp2_with fail
    refine (exRef_to 18 x y v f _ HXY HV HF).mono ?_
    rintro e w2 ⟨rfl, hb2⟩
    go_wp2_with fail
    refine (exBin_to 18 false _ hb).mono ?_
    rintro e w' ⟨rfl, rfl⟩
    go_wp2_with fail
    refine (exUn_to 18 true _ hu).mono ?_
    rintro e w' ⟨rfl, rfl⟩
    go_wp2_with fail
    go_ret
    exact ⟨rfl, hb1.trans (hb2.mono hb1.size)⟩
  · have h1 : 1 ≤ op := by omega
    have h2 : ¬ op ≤ 16 := by omega
    have hb : Hid (binB op = false) := Lib.hid (by unfold binB; rw [decide_eq_false h2, Bool.and_false])
    have n17 : (op == 17) = false := beq_eq_false_iff_ne.2 (by omega)
    have n18 : (op == 18) = false := beq_eq_false_iff_ne.2 (by omega)
    have hu : Hid (unB op = false) := Lib.hid (by unfold unB; rw [n17, n18]; rfl)
    have d2 : decide (op ≤ 16) = false := decide_eq_false h2
    clear h
    go_enter Tryd.func3, Tryd.ntmps3
    go_wp2_with fail
    refine (awake_true w G).mono ?_
    rintro e w1 ⟨rfl, hb1⟩
    go_wp2_with fail
    refine (exDo_to op x y v f _ HV HF).mono ?_
    rintro e w' ⟨rfl, rfl⟩
    go_wp2_with fail
    refine (exRef_to op x y v f _ HXY HV HF).mono ?_
    rintro e w2 ⟨rfl, hb2⟩
    go_wp2_with fail
    refine (exBin_to op false _ hb).mono ?_
    rintro e w' ⟨rfl, rfl⟩
    go_wp2_with fail
    refine (exUn_to op false _ hu).mono ?_
    rintro e w' ⟨rfl, rfl⟩
    go_wp2_with fail
    go_ret
    exact ⟨rfl, hb1.trans (hb2.mono hb1.size)⟩

end Go.Proofs.YtgdchlgepgbhhaaDoor
