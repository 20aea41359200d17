/-
  CONTRACT: the statements' awake: the answers that the document fixes by number. Of what was there nothing has turned.
-/
import Derived.Test.YtpaddigjjlidcaaFlFour
namespace Go.Proofs.Ytpaddigjjlidcaa
open Go.RowKit

def bl4 : List Blk := fourF.blocks
theorem four_ord : OrdR bl4 [0, 2, 1, 3] := by
  unfold OrdR
  rw [if_neg (by decide)]
  have s1 : Stp bl4 (mc0 5) ⟨[true, true, false, false, false], [0, 1], []⟩ := Stp.down (fl := [true, false, false, false, false]) (st := []) (out := []) (b := 0) (by decide)
  have s2 : Stp bl4 ⟨[true, true, false, false, false], [0, 1], []⟩ ⟨[true, true, false, true, false], [0, 1, 3], []⟩ := Stp.down (fl := [true, true, false, false, false]) (st := [0]) (out := []) (b := 1) (by decide)
  have s3 : Stp bl4 ⟨[true, true, false, true, false], [0, 1, 3], []⟩ ⟨[true, true, false, true, false], [0, 1], [3]⟩ := Stp.up (fl := [true, true, false, true, false]) (st := [0, 1]) (out := []) (b := 3) (by decide)
  have s4 : Stp bl4 ⟨[true, true, false, true, false], [0, 1], [3]⟩ ⟨[true, true, false, true, false], [0], [1, 3]⟩ := Stp.up (fl := [true, true, false, true, false]) (st := [0]) (out := [3]) (b := 1) (by decide)
  have s5 : Stp bl4 ⟨[true, true, false, true, false], [0], [1, 3]⟩ ⟨[true, true, true, true, false], [0, 2], [1, 3]⟩ := Stp.down (fl := [true, true, false, true, false]) (st := []) (out := [1, 3]) (b := 0) (by decide)
  have s6 : Stp bl4 ⟨[true, true, true, true, false], [0, 2], [1, 3]⟩ ⟨[true, true, true, true, false], [0], [2, 1, 3]⟩ := Stp.up (fl := [true, true, true, true, false]) (st := [0]) (out := [1, 3]) (b := 2) (by decide)
  have s7 : Stp bl4 ⟨[true, true, true, true, false], [0], [2, 1, 3]⟩ ⟨[true, true, true, true, false], [], [0, 2, 1, 3]⟩ := Stp.up (fl := [true, true, true, true, false]) (st := []) (out := [2, 1, 3]) (b := 0) (by decide)
  exact ⟨_, ((((((Stps.refl _).step s1).step s2).step s3).step s4).step s5 |>.step s6).step s7, rfl, rfl⟩
theorem four_ah : ahL bl4 = [[4], [0], [0], [1, 2], []] := by kernel_rfl
theorem four_wh : whL fourF = [-1, 0] := by kernel_rfl
theorem four_next : nextL bl4 0 = [1, 2] := by kernel_rfl
theorem four_back : backL bl4 [0, 2, 1, 3] = [] := by kernel_rfl
set_option maxRecDepth 100000 in
set_option maxHeartbeats 1000000 in
theorem awake_any (w : World) : Calls Try.prog 7 #[] w fun e w' => e = .returned (.bool true) ∧ Below w.heap.size w w' := by
  go_enter Try.func7, Try.ntmps7
  go_wp2_with fail
  refine (four_any w).mono ?_
  rintro e w1 ⟨E, hE, rfl, hM, hb⟩
  have HE := Lib.hid hE
  have HB := Lib.hid hb
  have HM := Lib.hid hM
  have hmF : E.f.blocks.length = 5 := by rw [hE]; rfl
  have hiF : E.f.ins.length = 2 := by rw [hE]; rfl
  have HMF := Lib.hid hmF
  have HIF := Lib.hid hiF
  clear hb hM hE hmF hiF
  have f0 : (w1.alloc (.cells E.row 26)).cell? ⟨w1.heap.size, 0, none⟩ = some (.string E.f.name) := cell_new w1 E.row 26 0
  have f1 : (w1.alloc (.cells E.row 26)).cell? ⟨w1.heap.size, 1, none⟩ = some (.slice E.pA E.f.params.length E.pc) := cell_new w1 E.row 26 1
  have f2 : (w1.alloc (.cells E.row 26)).cell? ⟨w1.heap.size, 2, none⟩ = some (.string E.f.res) := cell_new w1 E.row 26 2
  have f3 : (w1.alloc (.cells E.row 26)).cell? ⟨w1.heap.size, 3, none⟩ = some (.slice E.sA E.f.slots.length E.sc) := cell_new w1 E.row 26 3
  have f4 : (w1.alloc (.cells E.row 26)).cell? ⟨w1.heap.size, 4, none⟩ = some (.slice E.iA E.f.ins.length E.ic) := cell_new w1 E.row 26 4
  have f5 : (w1.alloc (.cells E.row 26)).cell? ⟨w1.heap.size, 5, none⟩ = some (.slice E.bA E.f.blocks.length E.bc) := cell_new w1 E.row 26 5
  replace HB := Lib.hid (HB.out.trans ((below_alloc w1 (.cells E.row 26)).mono HB.out.size))
  replace HM := Lib.hid (HM.out.drop (below_alloc w1 (.cells E.row 26)))
  have EO : Hid (∀ o, OrdR E.f.blocks o → o = [0, 2, 1, 3]) := fun o h => ord_uniq (show OrdR bl4 o by rw [HE.out] at h; exact h) four_ord
  have EA : Hid (ahL E.f.blocks = [[4], [0], [0], [1, 2], []]) := by show _ = _; rw [HE.out]; exact four_ah
  have EW : Hid (whL E.f = [-1, 0]) := by show _ = _; rw [HE.out]; exact four_wh
  have EN : Hid (nextL E.f.blocks 0 = [1, 2]) := by show _ = _; rw [HE.out]; exact four_next
  have EB : Hid (backL E.f.blocks [0, 2, 1, 3] = []) := by show _ = _; rw [HE.out]; exact four_back
  unfold FE.v FE.row
  unfold FE.row at f0 f1 f2 f3 f4 f5
  go_wp2_with fail
  refine (order_any E 5 _ HM.out HMF (Lib.hid (by omega))).mono ?_
  rintro e w2 ⟨o, hor, A2, k2, he, hk2, hS2, b⟩
  obtain rfl := EO.out o hor
  replace he : e = .returned (.slice A2 4 k2) := he
  replace hk2 : 4 ≤ k2 := hk2
  have S2 := Lib.hid hS2
  clear hS2 hor
  replace f0 := keepB f0 b
  replace f1 := keepB f1 b
  replace f2 := keepB f2 b
  replace f3 := keepB f3 b
  replace f4 := keepB f4 b
  replace f5 := keepB f5 b
  replace HB := Lib.hid (HB.out.trans (b.mono HB.out.size))
  replace HM := Lib.hid (HM.out.drop b)
  clear b
  subst he
  go_wp2_with fail
  refine (ahead_any E 5 _ HM.out HMF (Lib.hid (by omega))).mono ?_
  rintro e w2 ⟨A3, k3, he, hk3, hS3, b⟩
  rw [EA.out] at he hk3 hS3
  replace he : e = .returned (.slice A3 5 k3) := he
  replace hk3 : 5 ≤ k3 := hk3
  have S3 := Lib.hid hS3
  clear hS3
  replace f0 := keepB f0 b
  replace f1 := keepB f1 b
  replace f2 := keepB f2 b
  replace f3 := keepB f3 b
  replace f4 := keepB f4 b
  replace f5 := keepB f5 b
  replace HB := Lib.hid (HB.out.trans (b.mono HB.out.size))
  replace HM := Lib.hid (HM.out.drop b)
  replace S2 := Lib.hid (S2.out.drop kp_int b)
  clear b
  subst he
  go_wp2_with fail
  refine (where_any E 2 5 _ HM.out HIF HMF (Lib.hid (by omega)) (Lib.hid (by omega))).mono ?_
  rintro e w2 ⟨A4, k4, he, hk4, hS4, b⟩
  rw [EW.out] at he hk4 hS4
  replace he : e = .returned (.slice A4 2 k4) := he
  replace hk4 : 2 ≤ k4 := hk4
  have S4 := Lib.hid hS4
  clear hS4
  replace f0 := keepB f0 b
  replace f1 := keepB f1 b
  replace f2 := keepB f2 b
  replace f3 := keepB f3 b
  replace f4 := keepB f4 b
  replace f5 := keepB f5 b
  replace HB := Lib.hid (HB.out.trans (b.mono HB.out.size))
  replace HM := Lib.hid (HM.out.drop b)
  replace S2 := Lib.hid (S2.out.drop kp_int b)
  replace S3 := Lib.hid (S3.out.drop (kp_slC kp_int) b)
  clear b
  subst he
  go_wp2_with fail
  refine (reached_any E 5 _ HM.out HMF (Lib.hid (by omega))).mono ?_
  rintro e w2 ⟨fl, hfl, A5, k5, he, hk5, hS5, b⟩
  have hfn : fl.length = 5 := hfl.1.trans HMF.out
  rw [hfn] at he hk5
  have hof : OrdF E.f.blocks [0, 2, 1, 3] := ord_facts (by rw [HE.out]; exact four_ord) (by rw [HMF.out]; omega)
  have F3 : Hid (fl[3]? = some true) := (flag_ord hfl HMF.out hof (by omega)).trans rfl
  have F4 : Hid (fl[4]? = some false) := (flag_ord hfl HMF.out hof (by omega)).trans rfl
  have FN := Lib.hid hfn
  have S5 := Lib.hid hS5
  clear hS5 hfn hof hfl
  replace f0 := keepB f0 b
  replace f1 := keepB f1 b
  replace f2 := keepB f2 b
  replace f3 := keepB f3 b
  replace f4 := keepB f4 b
  replace f5 := keepB f5 b
  replace HB := Lib.hid (HB.out.trans (b.mono HB.out.size))
  replace HM := Lib.hid (HM.out.drop b)
  replace S2 := Lib.hid (S2.out.drop kp_int b)
  replace S3 := Lib.hid (S3.out.drop (kp_slC kp_int) b)
  replace S4 := Lib.hid (S4.out.drop kp_int b)
  clear b
  subst he
  go_wp2_with fail
  refine (next_any E 0 _ HM.out (i64_small _ (by omega) (by omega))).mono ?_
  rintro e w2 ⟨v6, he, hO6, b⟩
  rw [EN.out] at hO6
  obtain ⟨A6, k6, hv6, hk6, hS6⟩ := hO6.sl (fun x hx => by simp at hx; rcases hx with rfl | rfl <;> exact i64_small _ (by omega) (by omega))
  subst hv6
  replace he : e = .returned (.slice A6 2 k6) := he
  replace hk6 : 2 ≤ k6 := hk6
  clear hO6 hS6
  replace f0 := keepB f0 b
  replace f1 := keepB f1 b
  replace f2 := keepB f2 b
  replace f3 := keepB f3 b
  replace f4 := keepB f4 b
  replace f5 := keepB f5 b
  replace HB := Lib.hid (HB.out.trans (b.mono HB.out.size))
  replace HM := Lib.hid (HM.out.drop b)
  replace S2 := Lib.hid (S2.out.drop kp_int b)
  replace S3 := Lib.hid (S3.out.drop (kp_slC kp_int) b)
  replace S4 := Lib.hid (S4.out.drop kp_int b)
  replace S5 := Lib.hid (S5.out.drop kp_bool b)
  clear b
  subst he
  obtain ⟨g2, o2, rfl⟩ := S2.out.some (by simp)
  obtain ⟨g3, o3, rfl⟩ := S3.out.some (by simp)
  obtain ⟨g4, o4, rfl⟩ := S4.out.some (by simp)
  obtain ⟨g5, o5, rfl⟩ := S5.out.some (by rw [FN.out]; omega)
  obtain ⟨cs, ⟨rfl, -⟩, h⟩ := S2.out.at (k := 0) (x := 0) rfl
  have a0 := h 0 _ rfl
  simp only [Nat.mul_one, Nat.add_zero, Nat.zero_mul, Nat.one_mul] at a0
  clear h
  obtain ⟨cs, ⟨rfl, -⟩, h⟩ := S2.out.at (k := 1) (x := 2) rfl
  have a1 := h 0 _ rfl
  simp only [Nat.mul_one, Nat.add_zero, Nat.zero_mul, Nat.one_mul] at a1
  clear h
  obtain ⟨cs, ⟨rfl, -⟩, h⟩ := S2.out.at (k := 2) (x := 1) rfl
  have a2 := h 0 _ rfl
  simp only [Nat.mul_one, Nat.add_zero, Nat.zero_mul, Nat.one_mul] at a2
  clear h
  obtain ⟨cs, ⟨rfl, -⟩, h⟩ := S2.out.at (k := 3) (x := 3) rfl
  have a3 := h 0 _ rfl
  simp only [Nat.mul_one, Nat.add_zero, Nat.zero_mul, Nat.one_mul] at a3
  clear h
  obtain ⟨cs, ⟨rfl, -⟩, h⟩ := S4.out.at (k := 0) (x := -1) rfl
  have d0 := h 0 _ rfl
  simp only [Nat.mul_one, Nat.add_zero, Nat.zero_mul, Nat.one_mul] at d0
  clear h
  obtain ⟨cs, ⟨rfl, -⟩, h⟩ := S4.out.at (k := 1) (x := 0) rfl
  have d1 := h 0 _ rfl
  simp only [Nat.mul_one, Nat.add_zero, Nat.zero_mul, Nat.one_mul] at d1
  clear h
  obtain ⟨cs, rfl, h⟩ := S5.out.at (k := 3) (x := true) F3.out
  have e3 := h 0 _ rfl
  simp only [Nat.mul_one, Nat.add_zero, Nat.zero_mul, Nat.one_mul] at e3
  clear h
  obtain ⟨cs, rfl, h⟩ := S5.out.at (k := 4) (x := false) F4.out
  have e4 := h 0 _ rfl
  simp only [Nat.mul_one, Nat.add_zero, Nat.zero_mul, Nat.one_mul] at e4
  clear h
  obtain ⟨cs, ⟨v, rfl, Bc3, kc3, rfl, -, -, -⟩, h⟩ := S3.out.at (k := 3) (x := [1, 2]) rfl
  have c3 := h 0 _ rfl
  simp only [Nat.mul_one, Nat.add_zero, Nat.zero_mul, Nat.one_mul, List.length_cons, List.length_nil] at c3
  clear h
  obtain ⟨cs, ⟨v, rfl, Bc0, kc0, rfl, -, -, -⟩, h⟩ := S3.out.at (k := 0) (x := [4]) rfl
  have c0 := h 0 _ rfl
  simp only [Nat.mul_one, Nat.add_zero, Nat.zero_mul, Nat.one_mul, List.length_cons, List.length_nil] at c0
  clear h
  go_wp2_with fail
  refine (back_any E 5 _ HM.out HMF (Lib.hid (by omega))).mono ?_
  rintro e w2 ⟨o, hor, A7, k7, he, hk7, hS7, b⟩
  obtain rfl := EO.out o hor
  rw [EB.out] at he
  replace he : e = .returned (.slice A7 0 k7) := he
  subst he
  replace HB := Lib.hid (HB.out.trans (b.mono HB.out.size))
  clear hk7 hS7 b hor a0 a1 a2 a3 d0 d1 e3 e4 c3 c0 f0 f1 f2 f3 f4 f5
  go_wp2_with fail
  go_ret
  exact ⟨rfl, HB.out⟩
/-- All that the program's functions answer. -/
theorem flC : FlC where
  awake := awake_any
  next := fun E n w hM hn hw => (next_any E n w hM hn).mono (fun e w' h => h.rq (next_i64 (by have := (wide_le hw).2.1; omega)))
  ahead := fun E w hM hw => ahead_any E _ w hM (Lib.hid rfl) (Lib.hid (by have := (wide_le hw).2.1; omega))
  reached := fun E w hM hw => reached_any E _ w hM (Lib.hid rfl) (Lib.hid (by have := (wide_le hw).2.1; omega))
  order := fun E w hM hw => order_any E _ w hM (Lib.hid rfl) (Lib.hid (by have := (wide_le hw).2.1; omega))
  whr := fun E w hM hw => where_any E _ _ w hM (Lib.hid rfl) (Lib.hid rfl) (Lib.hid (by have := (wide_le hw).1; omega)) (Lib.hid (by have := (wide_le hw).2.1; omega))
  back := fun E w hM hw => back_any E _ w hM (Lib.hid rfl) (Lib.hid (by have := (wide_le hw).2.1; omega))
end Go.Proofs.Ytpaddigjjlidcaa
