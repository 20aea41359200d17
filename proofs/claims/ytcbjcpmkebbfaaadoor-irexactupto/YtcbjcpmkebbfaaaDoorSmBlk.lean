/-
  CONTRACTS: two blocks, two structs, two functions are the same, given what the rows' equality answers. Of what was there nothing has turned.
-/
import Derived.Test.YtcbjcpmkebbfaaaDoorSmIns
namespace Go.Proofs.YtcbjcpmkebbfaaaDoor
open Go.RowKit

theorem blk_ne {x y : Blk} (h : x.list ≠ y.list ∨ x.jump ≠ y.jump ∨ x.arg ≠ y.arg ∨ x.t0 ≠ y.t0 ∨ x.t1 ≠ y.t1) : x ≠ y := fun e => by
  subst e
  rcases h with h | h | h | h | h <;> exact h rfl
set_option maxHeartbeats 1000000 in
theorem sameBlk_any (E E' : BE) (b : Bool) (w : World) (h1 : BM E w) (h2 : BM E' w) (hr : Hid (b = true ↔ E.x = E'.x)) :
    Calls Tryd.prog 59 #[E.v, E'.v] w fun e w' => e = .returned (.bool b) ∧ Below w.heap.size w w' := by
  have HB := Lib.hid (below_two w (.cells E.row 53) (.cells E'.row 53))
  obtain ⟨⟨ls, j, g, t, s⟩, lA, lc⟩ := E
  obtain ⟨⟨ls', j', g', t', s'⟩, lA', lc'⟩ := E'
  unfold BE.v BE.row at *
  have H1 := Lib.hid h1
  have H2 := Lib.hid h2
  clear h1 h2
  simp only at hr ⊢
  obtain ⟨d, hd⟩ := bool_ex (ls = ls')
  have K := Lib.hid (fun w' hb => eqInt_any lA lA' lc lc' ls.length ls'.length ls ls' d w' (H1.out.L.below kp_int hb (Nat.le_refl _)) (H2.out.L.below kp_int hb (Nat.le_refl _)) (Lib.hid rfl) (Lib.hid rfl) H1.out.ll H2.out.ll hd)
  have a1 := two_a w #[.slice lA ls.length lc, .int .i64 j, .int .i64 g, .int .i64 t, .int .i64 s] #[.slice lA' ls'.length lc', .int .i64 j', .int .i64 g', .int .i64 t', .int .i64 s'] 53 53 1 _ rfl
  have e1 := two_b w #[.slice lA ls.length lc, .int .i64 j, .int .i64 g, .int .i64 t, .int .i64 s] #[.slice lA' ls'.length lc', .int .i64 j', .int .i64 g', .int .i64 t', .int .i64 s'] 53 53 1 _ rfl
  have a2 := two_a w #[.slice lA ls.length lc, .int .i64 j, .int .i64 g, .int .i64 t, .int .i64 s] #[.slice lA' ls'.length lc', .int .i64 j', .int .i64 g', .int .i64 t', .int .i64 s'] 53 53 2 _ rfl
  have e2 := two_b w #[.slice lA ls.length lc, .int .i64 j, .int .i64 g, .int .i64 t, .int .i64 s] #[.slice lA' ls'.length lc', .int .i64 j', .int .i64 g', .int .i64 t', .int .i64 s'] 53 53 2 _ rfl
  have a3 := two_a w #[.slice lA ls.length lc, .int .i64 j, .int .i64 g, .int .i64 t, .int .i64 s] #[.slice lA' ls'.length lc', .int .i64 j', .int .i64 g', .int .i64 t', .int .i64 s'] 53 53 3 _ rfl
  have e3 := two_b w #[.slice lA ls.length lc, .int .i64 j, .int .i64 g, .int .i64 t, .int .i64 s] #[.slice lA' ls'.length lc', .int .i64 j', .int .i64 g', .int .i64 t', .int .i64 s'] 53 53 3 _ rfl
  have a4 := two_a w #[.slice lA ls.length lc, .int .i64 j, .int .i64 g, .int .i64 t, .int .i64 s] #[.slice lA' ls'.length lc', .int .i64 j', .int .i64 g', .int .i64 t', .int .i64 s'] 53 53 4 _ rfl
  have e4 := two_b w #[.slice lA ls.length lc, .int .i64 j, .int .i64 g, .int .i64 t, .int .i64 s] #[.slice lA' ls'.length lc', .int .i64 j', .int .i64 g', .int .i64 t', .int .i64 s'] 53 53 4 _ rfl
  go_enter Tryd.func59, Tryd.ntmps59
  go_wp2_with fail
  refine (K.out _ HB.out).mono ?_
  rintro e w3 ⟨rfl, b3⟩
  have a1 := keepB a1 b3
  have e1 := keepB e1 b3
  have a2 := keepB a2 b3
  have e2 := keepB e2 b3
  have a3 := keepB a3 b3
  have e3 := keepB e3 b3
  have a4 := keepB a4 b3
  have e4 := keepB e4 b3
  have B3 := Lib.hid (HB.out.trans (b3.mono HB.out.size))
  clear b3 K
  cases d with
  | false =>
    obtain rfl : b = false := bool_no hr.out (blk_ne (.inl (fun e => by have := hd.out.2 e; cases this)))
    go_wp2_with fail
    go_ret
    exact ⟨rfl, B3.out⟩
  | true =>
  obtain rfl := hd.out.1 rfl
  clear hd
  cases g0 : (j == j') with
  | false =>
    obtain rfl : b = false := bool_no hr.out (blk_ne (.inr (.inl (fun e => by simp only at e; rw [e, beq_self_eq_true] at g0; cases g0))))
    go_wp2_with fail
    go_ret
    exact ⟨rfl, B3.out⟩
  | true =>
  cases g1 : (g == g') with
  | false =>
    obtain rfl : b = false := bool_no hr.out (blk_ne (.inr (.inr (.inl (fun e => by simp only at e; rw [e, beq_self_eq_true] at g1; cases g1)))))
    go_wp2_with fail
    go_ret
    exact ⟨rfl, B3.out⟩
  | true =>
  have q := eq51 t s t' s'
  cases g2 : (t == t' && s == s') with
  | false =>
    obtain rfl : b = false := bool_no hr.out (blk_ne (.inr (.inr (.inr (by
      by_cases h : t = t'
      · exact .inr (fun e => by simp only at e; rw [h, e] at g2; simp at g2)
      · exact .inl h)))))
    rw [g2] at q
    clear g2
    go_wp2_with fail
    go_ret
    exact ⟨rfl, B3.out⟩
  | true =>
  obtain rfl := eq_of_beq g0
  obtain rfl := eq_of_beq g1
  obtain ⟨h5, h6⟩ := Bool.and_eq_true_iff.1 g2
  obtain rfl := eq_of_beq h5
  obtain rfl := eq_of_beq h6
  rw [g2] at q
  obtain rfl : b = true := hr.out.2 rfl
  clear g0 g1 g2 h5 h6
  go_wp2_with fail
  go_ret
  exact ⟨rfl, B3.out⟩

set_option maxHeartbeats 1000000 in
theorem sameSt_any (E E' : TE) (b : Bool) (w : World) (h1 : TM E w) (h2 : TM E' w) (hr : Hid (b = true ↔ E.x = E'.x)) :
    Calls Tryd.prog 54 #[E.v, E'.v] w fun e w' => e = .returned (.bool b) ∧ Below w.heap.size w w' := by
  have HB := Lib.hid (below_two w (.cells E.row 58) (.cells E'.row 58))
  obtain ⟨⟨nm, fs⟩, fA, fc⟩ := E
  obtain ⟨⟨nm', fs'⟩, fA', fc'⟩ := E'
  unfold TE.v TE.row at *
  have H1 := Lib.hid h1
  have H2 := Lib.hid h2
  clear h1 h2
  simp only at hr ⊢
  cases g1 : eqS nm nm' with
  | false =>
    obtain rfl : b = false := bool_no hr.out (fun e => by injection e with e; rw [e, eqS_iff.2 rfl] at g1; cases g1)
    have g1 := eqS_spell g1
    go_enter Tryd.func54, Tryd.ntmps54
    go_wp2_with fail
    go_ret
    exact ⟨rfl, HB.out⟩
  | true =>
  obtain rfl := eqS_iff.1 g1
  clear g1
  obtain ⟨d, hd⟩ := bool_ex (fs = fs')
  have K := Lib.hid (fun w' hb => eqFd_any fA fA' fc fc' fs.length fs'.length fs fs' d w' (H1.out.F.below kp_fd hb (Nat.le_refl _)) (H2.out.F.below kp_fd hb (Nat.le_refl _)) (Lib.hid rfl) (Lib.hid rfl) H1.out.fl H2.out.fl hd)
  go_enter Tryd.func54, Tryd.ntmps54
  go_wp2_with fail
  refine (K.out _ HB.out).mono ?_
  rintro e w3 ⟨rfl, b3⟩
  have B3 := Lib.hid (HB.out.trans (b3.mono HB.out.size))
  clear b3 K
  obtain rfl : d = b := by
    rw [Bool.eq_iff_iff, hd.out, hr.out]
    exact ⟨fun e => by rw [e], fun e => by injection e⟩
  go_wp2_with fail
  go_ret
  exact ⟨rfl, B3.out⟩

end Go.Proofs.YtcbjcpmkebbfaaaDoor
