/-
  NumSwaps: THE LAW's CONTRACT: it answers true for every op, x and y, in a world in which the listed variables lie as the program's text lays them; of what was there nothing has turned.
-/
import Derived.Test.YtgdchlgepgbhhaaDoorLaid
import Derived.Test.YtgdchlgepgbhhaaDoorSwap
namespace Go.Proofs.YtgdchlgepgbhhaaDoor
open Go.RowKit

theorem do_to (op x y v f : Int) (w : World) (hv : Hid (doV op x y = v)) (hf : Hid (doE op y = f)) : Calls Tryd.prog 11 #[.int .i64 op, .int .i64 x, .int .i64 y] w fun e w' => e = .returned (.tuple #[.int .i64 v, .int .i64 f]) ∧ w = w' := by
  refine (do_any op x y w).mono ?_
  rintro e w' ⟨rfl, rfl⟩
  exact ⟨ret2_int hv.out hf.out, rfl⟩
theorem swap_to (op s : Int) (w : World) (h : Hid (swapV op = s)) : Calls Tryd.prog 24 #[.int .i64 op] w fun e w' => e = .returned (.int .i64 s) ∧ w = w' := by
  refine (swap_any op w).mono ?_
  rintro e w' ⟨rfl, rfl⟩
  exact ⟨ret_int h.out, rfl⟩
theorem bin_to (op : Int) (b : Bool) (w : World) (h : Hid (binB op = b)) : Calls Tryd.prog 13 #[.int .i64 op] w fun e w' => e = .returned (.bool b) ∧ w = w' := by
  refine (isBinary_any op w).mono ?_
  rintro e w' ⟨rfl, rfl⟩
  exact ⟨ret_bool h.out, rfl⟩
theorem un_to (op : Int) (b : Bool) (w : World) (h : Hid (unB op = b)) : Calls Tryd.prog 14 #[.int .i64 op] w fun e w' => e = .returned (.bool b) ∧ w = w' := by
  refine (isUnary_any op w).mono ?_
  rintro e w' ⟨rfl, rfl⟩
  exact ⟨ret_bool h.out, rfl⟩
theorem sign_to (op : Int) (d : ByteArray) (w : World) (G : Good w) (h : Hid (signS op = d)) : Calls Tryd.prog 17 #[.int .i64 op] w fun e w' => e = .returned (.string d) ∧ w = w' := by
  refine (sign_any op w G.signs).mono ?_
  rintro e w' ⟨rfl, rfl⟩
  exact ⟨ret_str h.out, rfl⟩

set_option maxHeartbeats 1000000 in
theorem swaps_walk (op x y : Int) (w : World) (G : Good w) :
    Calls Tryd.prog 7 #[.int .i64 op, .int .i64 x, .int .i64 y] w fun e w' => e = .returned (.bool true) ∧ Below w.heap.size w w' := by
  obtain ⟨lt, ge, eq, ne, h1, h2, h3, h4, h5, l0, l1, g0, g1, q0, q1, n0, n1, s1, s2⟩ := cmp_facts x y
  have b1 : (lt + ge == 1) = true := beq_iff_eq.2 s1
  have b2 : (eq + ne == 1) = true := beq_iff_eq.2 s2
  have H1 := Lib.hid h1
  have H2 := Lib.hid h2
  have H3 := Lib.hid h3
  have H4 := Lib.hid h4
  have H5 := Lib.hid h5
  have E13 : Hid (doE 13 y = 0) := by simp [Hid, doE, faultV]
  have E16 : Hid (doE 16 y = 0) := by simp [Hid, doE, faultV]
  have E11 : Hid (doE 11 y = 0) := by simp [Hid, doE, faultV]
  have E12 : Hid (doE 12 y = 0) := by simp [Hid, doE, faultV]
  have E18 : Hid (doE 18 0 = 0) := by simp [Hid, doE, faultV]
  clear h1 h2 h3 h4 h5 s1 s2
  obtain ⟨s, hs⟩ : ∃ s, swapV op = s := ⟨_, rfl⟩
  obtain ⟨d, hd⟩ : ∃ d, signS op = d := ⟨_, rfl⟩
  obtain ⟨a, ha⟩ : ∃ a, doV op x y = a := ⟨_, rfl⟩
  obtain ⟨f, hf⟩ : ∃ f, doE op y = f := ⟨_, rfl⟩
  have hk := sign_kind op
  rw [hd] at hk
  have hsw : s = 0 ∨ (s ≠ 0 ∧ doV s y x = a ∧ doE s x = f ∧ swapV s = op) := by
    by_cases h : s = 0
    · exact Or.inl h
    · obtain ⟨k1, k2, k3⟩ := swap_facts op x y (by rw [hs]; exact h)
      rw [hs] at k1 k2 k3
      exact Or.inr ⟨h, k1.trans ha, k2.trans hf, k3⟩
  have HS := Lib.hid hs
  have HD := Lib.hid hd
  have HA := Lib.hid ha
  have HF := Lib.hid hf
  clear hs hd ha hf
  go_enter Tryd.func7, Tryd.ntmps7
  go_wp2_with fail
  refine (awake_true w G).mono ?_
  rintro e w1 ⟨rfl, hb1⟩
  have G1 := G.below hb1
  clear G
  go_wp2_with fail
  refine (swap_to op s _ HS).mono ?_
  rintro e w' ⟨rfl, rfl⟩
  rcases hsw with h0 | ⟨h0, k1, k2, k3⟩
  · have z0 : (s != 0) = false := by simpa using h0
    clear h0
    rcases hk with ⟨u1, u2⟩ | ⟨u1, u2, u3⟩ | ⟨u1, u2, u3⟩
    · have U1 := Lib.hid u1
      clear u1
      go_wp2_with fail
      refine (do_to 13 x y lt 0 _ H1 E13).mono ?_
      rintro e w' ⟨rfl, rfl⟩
      go_wp2_with fail
      refine (do_to 16 x y ge 0 _ H2 E16).mono ?_
      rintro e w' ⟨rfl, rfl⟩
      go_wp2_with fail
      refine (do_to 11 x y eq 0 _ H3 E11).mono ?_
      rintro e w' ⟨rfl, rfl⟩
      go_wp2_with fail
      refine (do_to 12 x y ne 0 _ H4 E12).mono ?_
      rintro e w' ⟨rfl, rfl⟩
      go_wp2_with fail
      refine (do_to 18 eq 0 ne 0 _ H5 E18).mono ?_
      rintro e w' ⟨rfl, rfl⟩
      go_wp2_with fail
      refine (bin_to op true _ U1).mono ?_
      rintro e w' ⟨rfl, rfl⟩
      go_wp2_with fail
      refine (sign_to op d _ G1 HD).mono ?_
      rintro e w' ⟨rfl, rfl⟩
      go_wp2_with fail
      go_ret
      exact ⟨rfl, hb1⟩
    · have U1 := Lib.hid u1
      have U2 := Lib.hid u2
      clear u1 u2
      go_wp2_with fail
      refine (do_to 13 x y lt 0 _ H1 E13).mono ?_
      rintro e w' ⟨rfl, rfl⟩
      go_wp2_with fail
      refine (do_to 16 x y ge 0 _ H2 E16).mono ?_
      rintro e w' ⟨rfl, rfl⟩
      go_wp2_with fail
      refine (do_to 11 x y eq 0 _ H3 E11).mono ?_
      rintro e w' ⟨rfl, rfl⟩
      go_wp2_with fail
      refine (do_to 12 x y ne 0 _ H4 E12).mono ?_
      rintro e w' ⟨rfl, rfl⟩
      go_wp2_with fail
      refine (do_to 18 eq 0 ne 0 _ H5 E18).mono ?_
      rintro e w' ⟨rfl, rfl⟩
      go_wp2_with fail
      refine (bin_to op false _ U1).mono ?_
      rintro e w' ⟨rfl, rfl⟩
      go_wp2_with fail
      refine (un_to op true _ U2).mono ?_
      rintro e w' ⟨rfl, rfl⟩
      go_wp2_with fail
      refine (sign_to op d _ G1 HD).mono ?_
      rintro e w' ⟨rfl, rfl⟩
      go_wp2_with fail
      go_ret
      exact ⟨rfl, hb1⟩
    · have U1 := Lib.hid u1
      have U2 := Lib.hid u2
      clear u1 u2
      subst u3
      go_wp2_with fail
      refine (do_to 13 x y lt 0 _ H1 E13).mono ?_
      rintro e w' ⟨rfl, rfl⟩
      go_wp2_with fail
      refine (do_to 16 x y ge 0 _ H2 E16).mono ?_
      rintro e w' ⟨rfl, rfl⟩
      go_wp2_with fail
      refine (do_to 11 x y eq 0 _ H3 E11).mono ?_
      rintro e w' ⟨rfl, rfl⟩
      go_wp2_with fail
      refine (do_to 12 x y ne 0 _ H4 E12).mono ?_
      rintro e w' ⟨rfl, rfl⟩
      go_wp2_with fail
      refine (do_to 18 eq 0 ne 0 _ H5 E18).mono ?_
      rintro e w' ⟨rfl, rfl⟩
      go_wp2_with fail
      refine (bin_to op false _ U1).mono ?_
      rintro e w' ⟨rfl, rfl⟩
      go_wp2_with fail
      refine (un_to op false _ U2).mono ?_
      rintro e w' ⟨rfl, rfl⟩
      go_wp2_with fail
      refine (sign_to op _ _ G1 HD).mono ?_
      rintro e w' ⟨rfl, rfl⟩
      go_wp2_with fail
      go_ret
      exact ⟨rfl, hb1⟩
  · have z0 : (s != 0) = true := by simpa using h0
    have K1 := Lib.hid k1
    have K2 := Lib.hid k2
    have K3 := Lib.hid k3
    clear h0 k1 k2 k3
    rcases hk with ⟨u1, u2⟩ | ⟨u1, u2, u3⟩ | ⟨u1, u2, u3⟩
    · have U1 := Lib.hid u1
      clear u1
      go_wp2_with fail
      refine (do_to op x y a f _ HA HF).mono ?_
      rintro e w' ⟨rfl, rfl⟩
      go_wp2_with fail
      refine (do_to s y x a f _ K1 K2).mono ?_
      rintro e w' ⟨rfl, rfl⟩
      go_wp2_with fail
      refine (swap_to s op _ K3).mono ?_
      rintro e w' ⟨rfl, rfl⟩
      go_wp2_with fail
      refine (do_to 13 x y lt 0 _ H1 E13).mono ?_
      rintro e w' ⟨rfl, rfl⟩
      go_wp2_with fail
      refine (do_to 16 x y ge 0 _ H2 E16).mono ?_
      rintro e w' ⟨rfl, rfl⟩
      go_wp2_with fail
      refine (do_to 11 x y eq 0 _ H3 E11).mono ?_
      rintro e w' ⟨rfl, rfl⟩
      go_wp2_with fail
      refine (do_to 12 x y ne 0 _ H4 E12).mono ?_
      rintro e w' ⟨rfl, rfl⟩
      go_wp2_with fail
      refine (do_to 18 eq 0 ne 0 _ H5 E18).mono ?_
      rintro e w' ⟨rfl, rfl⟩
      go_wp2_with fail
      refine (bin_to op true _ U1).mono ?_
      rintro e w' ⟨rfl, rfl⟩
      go_wp2_with fail
      refine (sign_to op d _ G1 HD).mono ?_
      rintro e w' ⟨rfl, rfl⟩
      go_wp2_with fail
      go_ret
      exact ⟨rfl, hb1⟩
    · have U1 := Lib.hid u1
      have U2 := Lib.hid u2
      clear u1 u2
      go_wp2_with fail
      refine (do_to op x y a f _ HA HF).mono ?_
      rintro e w' ⟨rfl, rfl⟩
      go_wp2_with fail
      refine (do_to s y x a f _ K1 K2).mono ?_
      rintro e w' ⟨rfl, rfl⟩
      go_wp2_with fail
      refine (swap_to s op _ K3).mono ?_
      rintro e w' ⟨rfl, rfl⟩
      go_wp2_with fail
      refine (do_to 13 x y lt 0 _ H1 E13).mono ?_
      rintro e w' ⟨rfl, rfl⟩
      go_wp2_with fail
      refine (do_to 16 x y ge 0 _ H2 E16).mono ?_
      rintro e w' ⟨rfl, rfl⟩
      go_wp2_with fail
      refine (do_to 11 x y eq 0 _ H3 E11).mono ?_
      rintro e w' ⟨rfl, rfl⟩
      go_wp2_with fail
      refine (do_to 12 x y ne 0 _ H4 E12).mono ?_
      rintro e w' ⟨rfl, rfl⟩
      go_wp2_with fail
      refine (do_to 18 eq 0 ne 0 _ H5 E18).mono ?_
      rintro e w' ⟨rfl, rfl⟩
      go_wp2_with fail
      refine (bin_to op false _ U1).mono ?_
      rintro e w' ⟨rfl, rfl⟩
      go_wp2_with fail
      refine (un_to op true _ U2).mono ?_
      rintro e w' ⟨rfl, rfl⟩
      go_wp2_with fail
      refine (sign_to op d _ G1 HD).mono ?_
      rintro e w' ⟨rfl, rfl⟩
      go_wp2_with fail
      go_ret
      exact ⟨rfl, hb1⟩
    · have U1 := Lib.hid u1
      have U2 := Lib.hid u2
      clear u1 u2
      subst u3
      go_wp2_with fail
      refine (do_to op x y a f _ HA HF).mono ?_
      rintro e w' ⟨rfl, rfl⟩
      go_wp2_with fail
      refine (do_to s y x a f _ K1 K2).mono ?_
      rintro e w' ⟨rfl, rfl⟩
      go_wp2_with fail
      refine (swap_to s op _ K3).mono ?_
      rintro e w' ⟨rfl, rfl⟩
      go_wp2_with fail
      refine (do_to 13 x y lt 0 _ H1 E13).mono ?_
      rintro e w' ⟨rfl, rfl⟩
      go_wp2_with fail
      refine (do_to 16 x y ge 0 _ H2 E16).mono ?_
      rintro e w' ⟨rfl, rfl⟩
      go_wp2_with fail
      refine (do_to 11 x y eq 0 _ H3 E11).mono ?_
      rintro e w' ⟨rfl, rfl⟩
      go_wp2_with fail
      refine (do_to 12 x y ne 0 _ H4 E12).mono ?_
      rintro e w' ⟨rfl, rfl⟩
      go_wp2_with fail
      refine (do_to 18 eq 0 ne 0 _ H5 E18).mono ?_
      rintro e w' ⟨rfl, rfl⟩
      go_wp2_with fail
      refine (bin_to op false _ U1).mono ?_
      rintro e w' ⟨rfl, rfl⟩
      go_wp2_with fail
      refine (un_to op false _ U2).mono ?_
      rintro e w' ⟨rfl, rfl⟩
      go_wp2_with fail
      refine (sign_to op _ _ G1 HD).mono ?_
      rintro e w' ⟨rfl, rfl⟩
      go_wp2_with fail
      go_ret
      exact ⟨rfl, hb1⟩

end Go.Proofs.YtgdchlgepgbhhaaDoor
