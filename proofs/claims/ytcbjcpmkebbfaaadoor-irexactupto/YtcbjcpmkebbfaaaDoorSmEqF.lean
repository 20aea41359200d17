/-
  CONTRACTS: slices.EqualFunc at rows of structs, of instructions, of blocks: whether the rows are the same. Of what was there nothing has turned.
-/
import Derived.Test.YtcbjcpmkebbfaaaDoorSmBlk
namespace Go.Proofs.YtcbjcpmkebbfaaaDoor
open Go.RowKit

set_option maxRecDepth 20000 in
set_option maxHeartbeats 1000000 in
theorem eqSt_any (A A' : Option Addr) (c c' m m' : Nat) (l l' : List St) (b : Bool) (w : World) (hR : SL 2 stR w A l) (hR' : SL 2 stR w A' l') (hm : Hid (l.length = m)) (hm' : Hid (l'.length = m')) (hl : m ≤ 140737488351232) (hl' : m' ≤ 140737488351232)
    (hr : Hid (b = true ↔ l = l')) : Calls Tryd.prog 53 #[.slice A m c, .slice A' m' c', .func (.func 54) #[] #[]] w fun e w' => e = .returned (.bool b) ∧ Below w.heap.size w w' := by
  have HR := Lib.hid hR
  have HR' := Lib.hid hR'
  clear hR hR'
  by_cases he : m = m'
  · subst he
    go_enter Tryd.func53, Tryd.ntmps53
    go_wp2_with fail
    go_loopw [17] (fun i wr => BRel w m (fun k => l.take k = l'.take k) i wr) (fun i _ => m - (intOf i).toNat)
    case atStart => exact ⟨0, Nat.zero_le _, rfl, rfl, Below.refl _ _⟩
    case round =>
      obtain ⟨k, hk, rfl, HK, hb⟩ := hrel
      by_cases hlt : k < m
      · obtain ⟨g, o, x, cs, hA, hx, hcr, hcs⟩ := two_at (HR.out.below kp_st hb (Nat.le_refl _)) (k := k) (by have := hm.out; omega)
        obtain ⟨g', o', y, cs', hA', hy, hcr', hcs'⟩ := two_at (HR'.out.below kp_st hb (Nat.le_refl _)) (k := k) (by have := hm'.out; omega)
        obtain ⟨E, rfl, rfl, hM⟩ := te_of hcr
        obtain ⟨E', rfl, rfl, hM'⟩ := te_of hcr'
        have HM := Lib.hid hM
        have HM' := Lib.hid hM'
        have x0 := hcs 0 _ rfl
        have y0 := hcs' 0 _ rfl
        have x1 := hcs 1 _ rfl
        have y1 := hcs' 1 _ rfl
        simp only [Nat.add_zero] at x0 y0
        have HX := Lib.hid hx
        have HY := Lib.hid hy
        have HB := Lib.hid hb
        obtain ⟨d, hd⟩ := bool_ex (E.x = E'.x)
        have z0 := keepB y0 (below_alloc wr (.cells #[.string E.x.name, .slice E.fA E.x.fields.length E.fc] 58))
        have p0 := two_a wr #[.string E.x.name, .slice E.fA E.x.fields.length E.fc] #[.string E'.x.name, .slice E'.fA E'.x.fields.length E'.fc] 58 58 0 _ rfl
        have q0 := two_b wr #[.string E.x.name, .slice E.fA E.x.fields.length E.fc] #[.string E'.x.name, .slice E'.fA E'.x.fields.length E'.fc] 58 58 0 _ rfl
        have z1 := keepB y1 (below_alloc wr (.cells #[.string E.x.name, .slice E.fA E.x.fields.length E.fc] 58))
        have p1 := two_a wr #[.string E.x.name, .slice E.fA E.x.fields.length E.fc] #[.string E'.x.name, .slice E'.fA E'.x.fields.length E'.fc] 58 58 1 _ rfl
        have q1 := two_b wr #[.string E.x.name, .slice E.fA E.x.fields.length E.fc] #[.string E'.x.name, .slice E'.fA E'.x.fields.length E'.fc] 58 58 1 _ rfl
        have HB2 := Lib.hid (HB.out.trans ((below_two wr (.cells #[.string E.x.name, .slice E.fA E.x.fields.length E.fc] 58) (.cells #[.string E'.x.name, .slice E'.fA E'.x.fields.length E'.fc] 58)).mono HB.out.size))
        have K := Lib.hid (sameSt_any E E' d _ (HM.out.drop (below_two wr (.cells #[.string E.x.name, .slice E.fA E.x.fields.length E.fc] 58) (.cells #[.string E'.x.name, .slice E'.fA E'.x.fields.length E'.fc] 58))) (HM'.out.drop (below_two wr (.cells #[.string E.x.name, .slice E.fA E.x.fields.length E.fc] 58) (.cells #[.string E'.x.name, .slice E'.fA E'.x.fields.length E'.fc] 58))) hd)
        subst hA
        subst hA'
        clear hcs hcs' hx hy hb hM hM' hcr hcr'
        go_wp2_with fail
        refine K.out.mono ?_
        rintro e w3 ⟨rfl, b3⟩
        have B3 := Lib.hid (HB2.out.trans (b3.mono HB2.out.size))
        clear b3 K
        cases d with
        | false =>
          obtain rfl : b = false := bool_no hr.out (ne_of HX.out HY.out (fun e => by have := hd.out.2 e; cases this))
          go_wp2_with fail
          go_ret
          exact ⟨rfl, B3.out⟩
        | true =>
          have HT := Lib.hid (take_up HK.out HX.out (by rw [hd.out.1 rfl]; exact HY.out))
          go_wp2_with fail
          go_roundw
          case rel => exact ⟨k + 1, by omega, by go_num, HT, B3.out⟩
          case measure => simp [intOf]; omega
      · obtain rfl : b = true := hr.out.2 (all_eq hm.out hm'.out (by omega) HK.out)
        go_wp2_with fail
        go_ret
        exact ⟨rfl, hb⟩
  · have n1 : ((m : Int) != (m' : Int)) = true := by simp; omega
    have n2 : (m != m') = true := by simp; exact he
    obtain rfl : b = false := bool_no hr.out (fun h => he (by have h1 := hm.out; have h2 := hm'.out; rw [h] at h1; omega))
    clear he
    go_enter Tryd.func53, Tryd.ntmps53
    go_wp2_with fail
    go_ret
    exact ⟨rfl, Below.refl _ _⟩

set_option maxRecDepth 20000 in
set_option maxHeartbeats 1000000 in
theorem eqIns_any (A A' : Option Addr) (c c' m m' : Nat) (l l' : List Ins) (b : Bool) (w : World) (hR : SL 5 insR w A l) (hR' : SL 5 insR w A' l') (hm : Hid (l.length = m)) (hm' : Hid (l'.length = m')) (hl : m ≤ 140737488351232) (hl' : m' ≤ 140737488351232)
    (hr : Hid (b = true ↔ l = l')) : Calls Tryd.prog 56 #[.slice A m c, .slice A' m' c', .func (.func 57) #[] #[]] w fun e w' => e = .returned (.bool b) ∧ Below w.heap.size w w' := by
  have HR := Lib.hid hR
  have HR' := Lib.hid hR'
  clear hR hR'
  by_cases he : m = m'
  · subst he
    go_enter Tryd.func56, Tryd.ntmps56
    go_wp2_with fail
    go_loopw [17] (fun i wr => BRel w m (fun k => l.take k = l'.take k) i wr) (fun i _ => m - (intOf i).toNat)
    case atStart => exact ⟨0, Nat.zero_le _, rfl, rfl, Below.refl _ _⟩
    case round =>
      obtain ⟨k, hk, rfl, HK, hb⟩ := hrel
      by_cases hlt : k < m
      · obtain ⟨g, o, x, cs, hA, hx, hcr, hcs⟩ := two_at (HR.out.below kp_ins hb (Nat.le_refl _)) (k := k) (by have := hm.out; omega)
        obtain ⟨g', o', y, cs', hA', hy, hcr', hcs'⟩ := two_at (HR'.out.below kp_ins hb (Nat.le_refl _)) (k := k) (by have := hm'.out; omega)
        obtain ⟨E, rfl, rfl, hM⟩ := ie_of hcr
        obtain ⟨E', rfl, rfl, hM'⟩ := ie_of hcr'
        have HM := Lib.hid hM
        have HM' := Lib.hid hM'
        have x0 := hcs 0 _ rfl
        have y0 := hcs' 0 _ rfl
        have x1 := hcs 1 _ rfl
        have y1 := hcs' 1 _ rfl
        have x2 := hcs 2 _ rfl
        have y2 := hcs' 2 _ rfl
        have x3 := hcs 3 _ rfl
        have y3 := hcs' 3 _ rfl
        have x4 := hcs 4 _ rfl
        have y4 := hcs' 4 _ rfl
        simp only [Nat.add_zero] at x0 y0
        have HX := Lib.hid hx
        have HY := Lib.hid hy
        have HB := Lib.hid hb
        obtain ⟨d, hd⟩ := bool_ex (E.x = E'.x)
        have z0 := keepB y0 (below_alloc wr (.cells #[.int .i64 E.x.op, .string E.x.typ, .slice E.aA E.x.args.length E.ac, .int .i64 E.x.n, .string E.x.name] 47))
        have p0 := two_a wr #[.int .i64 E.x.op, .string E.x.typ, .slice E.aA E.x.args.length E.ac, .int .i64 E.x.n, .string E.x.name] #[.int .i64 E'.x.op, .string E'.x.typ, .slice E'.aA E'.x.args.length E'.ac, .int .i64 E'.x.n, .string E'.x.name] 47 47 0 _ rfl
        have q0 := two_b wr #[.int .i64 E.x.op, .string E.x.typ, .slice E.aA E.x.args.length E.ac, .int .i64 E.x.n, .string E.x.name] #[.int .i64 E'.x.op, .string E'.x.typ, .slice E'.aA E'.x.args.length E'.ac, .int .i64 E'.x.n, .string E'.x.name] 47 47 0 _ rfl
        have z1 := keepB y1 (below_alloc wr (.cells #[.int .i64 E.x.op, .string E.x.typ, .slice E.aA E.x.args.length E.ac, .int .i64 E.x.n, .string E.x.name] 47))
        have p1 := two_a wr #[.int .i64 E.x.op, .string E.x.typ, .slice E.aA E.x.args.length E.ac, .int .i64 E.x.n, .string E.x.name] #[.int .i64 E'.x.op, .string E'.x.typ, .slice E'.aA E'.x.args.length E'.ac, .int .i64 E'.x.n, .string E'.x.name] 47 47 1 _ rfl
        have q1 := two_b wr #[.int .i64 E.x.op, .string E.x.typ, .slice E.aA E.x.args.length E.ac, .int .i64 E.x.n, .string E.x.name] #[.int .i64 E'.x.op, .string E'.x.typ, .slice E'.aA E'.x.args.length E'.ac, .int .i64 E'.x.n, .string E'.x.name] 47 47 1 _ rfl
        have z2 := keepB y2 (below_alloc wr (.cells #[.int .i64 E.x.op, .string E.x.typ, .slice E.aA E.x.args.length E.ac, .int .i64 E.x.n, .string E.x.name] 47))
        have p2 := two_a wr #[.int .i64 E.x.op, .string E.x.typ, .slice E.aA E.x.args.length E.ac, .int .i64 E.x.n, .string E.x.name] #[.int .i64 E'.x.op, .string E'.x.typ, .slice E'.aA E'.x.args.length E'.ac, .int .i64 E'.x.n, .string E'.x.name] 47 47 2 _ rfl
        have q2 := two_b wr #[.int .i64 E.x.op, .string E.x.typ, .slice E.aA E.x.args.length E.ac, .int .i64 E.x.n, .string E.x.name] #[.int .i64 E'.x.op, .string E'.x.typ, .slice E'.aA E'.x.args.length E'.ac, .int .i64 E'.x.n, .string E'.x.name] 47 47 2 _ rfl
        have z3 := keepB y3 (below_alloc wr (.cells #[.int .i64 E.x.op, .string E.x.typ, .slice E.aA E.x.args.length E.ac, .int .i64 E.x.n, .string E.x.name] 47))
        have p3 := two_a wr #[.int .i64 E.x.op, .string E.x.typ, .slice E.aA E.x.args.length E.ac, .int .i64 E.x.n, .string E.x.name] #[.int .i64 E'.x.op, .string E'.x.typ, .slice E'.aA E'.x.args.length E'.ac, .int .i64 E'.x.n, .string E'.x.name] 47 47 3 _ rfl
        have q3 := two_b wr #[.int .i64 E.x.op, .string E.x.typ, .slice E.aA E.x.args.length E.ac, .int .i64 E.x.n, .string E.x.name] #[.int .i64 E'.x.op, .string E'.x.typ, .slice E'.aA E'.x.args.length E'.ac, .int .i64 E'.x.n, .string E'.x.name] 47 47 3 _ rfl
        have z4 := keepB y4 (below_alloc wr (.cells #[.int .i64 E.x.op, .string E.x.typ, .slice E.aA E.x.args.length E.ac, .int .i64 E.x.n, .string E.x.name] 47))
        have p4 := two_a wr #[.int .i64 E.x.op, .string E.x.typ, .slice E.aA E.x.args.length E.ac, .int .i64 E.x.n, .string E.x.name] #[.int .i64 E'.x.op, .string E'.x.typ, .slice E'.aA E'.x.args.length E'.ac, .int .i64 E'.x.n, .string E'.x.name] 47 47 4 _ rfl
        have q4 := two_b wr #[.int .i64 E.x.op, .string E.x.typ, .slice E.aA E.x.args.length E.ac, .int .i64 E.x.n, .string E.x.name] #[.int .i64 E'.x.op, .string E'.x.typ, .slice E'.aA E'.x.args.length E'.ac, .int .i64 E'.x.n, .string E'.x.name] 47 47 4 _ rfl
        have HB2 := Lib.hid (HB.out.trans ((below_two wr (.cells #[.int .i64 E.x.op, .string E.x.typ, .slice E.aA E.x.args.length E.ac, .int .i64 E.x.n, .string E.x.name] 47) (.cells #[.int .i64 E'.x.op, .string E'.x.typ, .slice E'.aA E'.x.args.length E'.ac, .int .i64 E'.x.n, .string E'.x.name] 47)).mono HB.out.size))
        have K := Lib.hid (sameIns_any E E' d _ (HM.out.drop (below_two wr (.cells #[.int .i64 E.x.op, .string E.x.typ, .slice E.aA E.x.args.length E.ac, .int .i64 E.x.n, .string E.x.name] 47) (.cells #[.int .i64 E'.x.op, .string E'.x.typ, .slice E'.aA E'.x.args.length E'.ac, .int .i64 E'.x.n, .string E'.x.name] 47))) (HM'.out.drop (below_two wr (.cells #[.int .i64 E.x.op, .string E.x.typ, .slice E.aA E.x.args.length E.ac, .int .i64 E.x.n, .string E.x.name] 47) (.cells #[.int .i64 E'.x.op, .string E'.x.typ, .slice E'.aA E'.x.args.length E'.ac, .int .i64 E'.x.n, .string E'.x.name] 47))) hd)
        subst hA
        subst hA'
        clear hcs hcs' hx hy hb hM hM' hcr hcr'
        go_wp2_with fail
        refine K.out.mono ?_
        rintro e w3 ⟨rfl, b3⟩
        have B3 := Lib.hid (HB2.out.trans (b3.mono HB2.out.size))
        clear b3 K
        cases d with
        | false =>
          obtain rfl : b = false := bool_no hr.out (ne_of HX.out HY.out (fun e => by have := hd.out.2 e; cases this))
          go_wp2_with fail
          go_ret
          exact ⟨rfl, B3.out⟩
        | true =>
          have HT := Lib.hid (take_up HK.out HX.out (by rw [hd.out.1 rfl]; exact HY.out))
          go_wp2_with fail
          go_roundw
          case rel => exact ⟨k + 1, by omega, by go_num, HT, B3.out⟩
          case measure => simp [intOf]; omega
      · obtain rfl : b = true := hr.out.2 (all_eq hm.out hm'.out (by omega) HK.out)
        go_wp2_with fail
        go_ret
        exact ⟨rfl, hb⟩
  · have n1 : ((m : Int) != (m' : Int)) = true := by simp; omega
    have n2 : (m != m') = true := by simp; exact he
    obtain rfl : b = false := bool_no hr.out (fun h => he (by have h1 := hm.out; have h2 := hm'.out; rw [h] at h1; omega))
    clear he
    go_enter Tryd.func56, Tryd.ntmps56
    go_wp2_with fail
    go_ret
    exact ⟨rfl, Below.refl _ _⟩

set_option maxRecDepth 20000 in
set_option maxHeartbeats 1000000 in
theorem eqBlk_any (A A' : Option Addr) (c c' m m' : Nat) (l l' : List Blk) (b : Bool) (w : World) (hR : SL 5 blkR w A l) (hR' : SL 5 blkR w A' l') (hm : Hid (l.length = m)) (hm' : Hid (l'.length = m')) (hl : m ≤ 140737488351232) (hl' : m' ≤ 140737488351232)
    (hr : Hid (b = true ↔ l = l')) : Calls Tryd.prog 58 #[.slice A m c, .slice A' m' c', .func (.func 59) #[] #[]] w fun e w' => e = .returned (.bool b) ∧ Below w.heap.size w w' := by
  have HR := Lib.hid hR
  have HR' := Lib.hid hR'
  clear hR hR'
  by_cases he : m = m'
  · subst he
    go_enter Tryd.func58, Tryd.ntmps58
    go_wp2_with fail
    go_loopw [17] (fun i wr => BRel w m (fun k => l.take k = l'.take k) i wr) (fun i _ => m - (intOf i).toNat)
    case atStart => exact ⟨0, Nat.zero_le _, rfl, rfl, Below.refl _ _⟩
    case round =>
      obtain ⟨k, hk, rfl, HK, hb⟩ := hrel
      by_cases hlt : k < m
      · obtain ⟨g, o, x, cs, hA, hx, hcr, hcs⟩ := two_at (HR.out.below kp_blk hb (Nat.le_refl _)) (k := k) (by have := hm.out; omega)
        obtain ⟨g', o', y, cs', hA', hy, hcr', hcs'⟩ := two_at (HR'.out.below kp_blk hb (Nat.le_refl _)) (k := k) (by have := hm'.out; omega)
        obtain ⟨E, rfl, rfl, hM⟩ := be_of hcr
        obtain ⟨E', rfl, rfl, hM'⟩ := be_of hcr'
        have HM := Lib.hid hM
        have HM' := Lib.hid hM'
        have x0 := hcs 0 _ rfl
        have y0 := hcs' 0 _ rfl
        have x1 := hcs 1 _ rfl
        have y1 := hcs' 1 _ rfl
        have x2 := hcs 2 _ rfl
        have y2 := hcs' 2 _ rfl
        have x3 := hcs 3 _ rfl
        have y3 := hcs' 3 _ rfl
        have x4 := hcs 4 _ rfl
        have y4 := hcs' 4 _ rfl
        simp only [Nat.add_zero] at x0 y0
        have HX := Lib.hid hx
        have HY := Lib.hid hy
        have HB := Lib.hid hb
        obtain ⟨d, hd⟩ := bool_ex (E.x = E'.x)
        have z0 := keepB y0 (below_alloc wr (.cells #[.slice E.lA E.x.list.length E.lc, .int .i64 E.x.jump, .int .i64 E.x.arg, .int .i64 E.x.t0, .int .i64 E.x.t1] 53))
        have p0 := two_a wr #[.slice E.lA E.x.list.length E.lc, .int .i64 E.x.jump, .int .i64 E.x.arg, .int .i64 E.x.t0, .int .i64 E.x.t1] #[.slice E'.lA E'.x.list.length E'.lc, .int .i64 E'.x.jump, .int .i64 E'.x.arg, .int .i64 E'.x.t0, .int .i64 E'.x.t1] 53 53 0 _ rfl
        have q0 := two_b wr #[.slice E.lA E.x.list.length E.lc, .int .i64 E.x.jump, .int .i64 E.x.arg, .int .i64 E.x.t0, .int .i64 E.x.t1] #[.slice E'.lA E'.x.list.length E'.lc, .int .i64 E'.x.jump, .int .i64 E'.x.arg, .int .i64 E'.x.t0, .int .i64 E'.x.t1] 53 53 0 _ rfl
        have z1 := keepB y1 (below_alloc wr (.cells #[.slice E.lA E.x.list.length E.lc, .int .i64 E.x.jump, .int .i64 E.x.arg, .int .i64 E.x.t0, .int .i64 E.x.t1] 53))
        have p1 := two_a wr #[.slice E.lA E.x.list.length E.lc, .int .i64 E.x.jump, .int .i64 E.x.arg, .int .i64 E.x.t0, .int .i64 E.x.t1] #[.slice E'.lA E'.x.list.length E'.lc, .int .i64 E'.x.jump, .int .i64 E'.x.arg, .int .i64 E'.x.t0, .int .i64 E'.x.t1] 53 53 1 _ rfl
        have q1 := two_b wr #[.slice E.lA E.x.list.length E.lc, .int .i64 E.x.jump, .int .i64 E.x.arg, .int .i64 E.x.t0, .int .i64 E.x.t1] #[.slice E'.lA E'.x.list.length E'.lc, .int .i64 E'.x.jump, .int .i64 E'.x.arg, .int .i64 E'.x.t0, .int .i64 E'.x.t1] 53 53 1 _ rfl
        have z2 := keepB y2 (below_alloc wr (.cells #[.slice E.lA E.x.list.length E.lc, .int .i64 E.x.jump, .int .i64 E.x.arg, .int .i64 E.x.t0, .int .i64 E.x.t1] 53))
        have p2 := two_a wr #[.slice E.lA E.x.list.length E.lc, .int .i64 E.x.jump, .int .i64 E.x.arg, .int .i64 E.x.t0, .int .i64 E.x.t1] #[.slice E'.lA E'.x.list.length E'.lc, .int .i64 E'.x.jump, .int .i64 E'.x.arg, .int .i64 E'.x.t0, .int .i64 E'.x.t1] 53 53 2 _ rfl
        have q2 := two_b wr #[.slice E.lA E.x.list.length E.lc, .int .i64 E.x.jump, .int .i64 E.x.arg, .int .i64 E.x.t0, .int .i64 E.x.t1] #[.slice E'.lA E'.x.list.length E'.lc, .int .i64 E'.x.jump, .int .i64 E'.x.arg, .int .i64 E'.x.t0, .int .i64 E'.x.t1] 53 53 2 _ rfl
        have z3 := keepB y3 (below_alloc wr (.cells #[.slice E.lA E.x.list.length E.lc, .int .i64 E.x.jump, .int .i64 E.x.arg, .int .i64 E.x.t0, .int .i64 E.x.t1] 53))
        have p3 := two_a wr #[.slice E.lA E.x.list.length E.lc, .int .i64 E.x.jump, .int .i64 E.x.arg, .int .i64 E.x.t0, .int .i64 E.x.t1] #[.slice E'.lA E'.x.list.length E'.lc, .int .i64 E'.x.jump, .int .i64 E'.x.arg, .int .i64 E'.x.t0, .int .i64 E'.x.t1] 53 53 3 _ rfl
        have q3 := two_b wr #[.slice E.lA E.x.list.length E.lc, .int .i64 E.x.jump, .int .i64 E.x.arg, .int .i64 E.x.t0, .int .i64 E.x.t1] #[.slice E'.lA E'.x.list.length E'.lc, .int .i64 E'.x.jump, .int .i64 E'.x.arg, .int .i64 E'.x.t0, .int .i64 E'.x.t1] 53 53 3 _ rfl
        have z4 := keepB y4 (below_alloc wr (.cells #[.slice E.lA E.x.list.length E.lc, .int .i64 E.x.jump, .int .i64 E.x.arg, .int .i64 E.x.t0, .int .i64 E.x.t1] 53))
        have p4 := two_a wr #[.slice E.lA E.x.list.length E.lc, .int .i64 E.x.jump, .int .i64 E.x.arg, .int .i64 E.x.t0, .int .i64 E.x.t1] #[.slice E'.lA E'.x.list.length E'.lc, .int .i64 E'.x.jump, .int .i64 E'.x.arg, .int .i64 E'.x.t0, .int .i64 E'.x.t1] 53 53 4 _ rfl
        have q4 := two_b wr #[.slice E.lA E.x.list.length E.lc, .int .i64 E.x.jump, .int .i64 E.x.arg, .int .i64 E.x.t0, .int .i64 E.x.t1] #[.slice E'.lA E'.x.list.length E'.lc, .int .i64 E'.x.jump, .int .i64 E'.x.arg, .int .i64 E'.x.t0, .int .i64 E'.x.t1] 53 53 4 _ rfl
        have HB2 := Lib.hid (HB.out.trans ((below_two wr (.cells #[.slice E.lA E.x.list.length E.lc, .int .i64 E.x.jump, .int .i64 E.x.arg, .int .i64 E.x.t0, .int .i64 E.x.t1] 53) (.cells #[.slice E'.lA E'.x.list.length E'.lc, .int .i64 E'.x.jump, .int .i64 E'.x.arg, .int .i64 E'.x.t0, .int .i64 E'.x.t1] 53)).mono HB.out.size))
        have K := Lib.hid (sameBlk_any E E' d _ (HM.out.drop (below_two wr (.cells #[.slice E.lA E.x.list.length E.lc, .int .i64 E.x.jump, .int .i64 E.x.arg, .int .i64 E.x.t0, .int .i64 E.x.t1] 53) (.cells #[.slice E'.lA E'.x.list.length E'.lc, .int .i64 E'.x.jump, .int .i64 E'.x.arg, .int .i64 E'.x.t0, .int .i64 E'.x.t1] 53))) (HM'.out.drop (below_two wr (.cells #[.slice E.lA E.x.list.length E.lc, .int .i64 E.x.jump, .int .i64 E.x.arg, .int .i64 E.x.t0, .int .i64 E.x.t1] 53) (.cells #[.slice E'.lA E'.x.list.length E'.lc, .int .i64 E'.x.jump, .int .i64 E'.x.arg, .int .i64 E'.x.t0, .int .i64 E'.x.t1] 53))) hd)
        subst hA
        subst hA'
        clear hcs hcs' hx hy hb hM hM' hcr hcr'
        go_wp2_with fail
        refine K.out.mono ?_
        rintro e w3 ⟨rfl, b3⟩
        have B3 := Lib.hid (HB2.out.trans (b3.mono HB2.out.size))
        clear b3 K
        cases d with
        | false =>
          obtain rfl : b = false := bool_no hr.out (ne_of HX.out HY.out (fun e => by have := hd.out.2 e; cases this))
          go_wp2_with fail
          go_ret
          exact ⟨rfl, B3.out⟩
        | true =>
          have HT := Lib.hid (take_up HK.out HX.out (by rw [hd.out.1 rfl]; exact HY.out))
          go_wp2_with fail
          go_roundw
          case rel => exact ⟨k + 1, by omega, by go_num, HT, B3.out⟩
          case measure => simp [intOf]; omega
      · obtain rfl : b = true := hr.out.2 (all_eq hm.out hm'.out (by omega) HK.out)
        go_wp2_with fail
        go_ret
        exact ⟨rfl, hb⟩
  · have n1 : ((m : Int) != (m' : Int)) = true := by simp; omega
    have n2 : (m != m') = true := by simp; exact he
    obtain rfl : b = false := bool_no hr.out (fun h => he (by have h1 := hm.out; have h2 := hm'.out; rw [h] at h1; omega))
    clear he
    go_enter Tryd.func58, Tryd.ntmps58
    go_wp2_with fail
    go_ret
    exact ⟨rfl, Below.refl _ _⟩

end Go.Proofs.YtcbjcpmkebbfaaaDoor
