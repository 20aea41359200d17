/-
  CONTRACT: Check of package kind. Of what was there nothing has turned.
-/
import Derived.Test.YtjgmhkplgenieaaDoorCheckS
namespace Go.Proofs.YtjgmhkplgenieaaDoor
open Go.RowKit

def ChRel (w : World) (g : Nat → Nat) (m p r : Nat) (i : Value) (wr : World) : Prop :=
  ∃ k : Nat, k ≤ m ∧ i = .int .i64 k ∧ Hid (fir g m k = (p, r)) ∧ Below w.heap.size w wr

set_option maxHeartbeats 400000 in
theorem check_any (A : Option Addr) (c m : Nat) (ss : List Str) (p r : Nat) (w : World) (hK : KeysIn w) (hR : SR w A ss)
    (hm : Hid (ss.length = m)) (hl : m ≤ 281474976710656) (hmc : m ≤ c) (hr : Hid (chk ss = (p, r))) :
    Calls Tryd.prog 23 #[.slice A m c] w fun e w' => e = .returned (.tuple #[.int .i64 p, .int .i64 r]) ∧ Below w.heap.size w w' := by
  have HR := Lib.hid hR
  have HK := Lib.hid hK
  clear hR hK
  by_cases h12 : 12 < m
  · have h12' : (12 : Int) < (m : Int) := by omega
    have hq : (0, 4) = (p, r) := by rw [← hr.out, chk, hm.out, if_pos h12]
    obtain ⟨rfl, rfl⟩ := Prod.mk.inj hq
    clear hq hr
    go_enter Tryd.func23, Tryd.ntmps23
    go_wp2_with fail
    go_ret2
    exact ⟨rfl, Below.refl _ _⟩
  · have h12' : ¬ (12 : Int) < (m : Int) := by omega
    have HQ : Hid (fir (chkS ss) m 0 = (p, r)) := by show _ = _; rw [← hr.out, chk, hm.out, if_neg h12]
    clear hr
    go_enter Tryd.func23, Tryd.ntmps23
    go_wp2_with fail
    go_loopw [11] (fun i wr => ChRel w (chkS ss) m p r i wr) (fun i _ => m - (intOf i).toNat)
    case atStart => exact ⟨0, Nat.zero_le _, rfl, HQ, Below.refl _ _⟩
    case round =>
      obtain ⟨q, hq, rfl, HK2, hb⟩ := hrel
      by_cases hlt : q < m
      · have hk4 := Lib.hid (HK.out.below hb (Nat.le_refl _))
        have hr4 := Lib.hid (HR.out.below hb (Nat.le_refl _))
        obtain ⟨er, her⟩ : ∃ er, chkS ss q = er := ⟨_, rfl⟩
        have HER := Lib.hid her
        by_cases h0 : er = 0
        · have HN : Hid (fir (chkS ss) m (q + 1) = (p, r)) := by show _ = _; rw [← fir_next hlt (her.trans h0)]; exact HK2.out
          subst h0
          clear her
          go_wp2_with (go_at_call 39; refine (checkStruct_any _ _ m ss q 0 _ hk4.out hr4.out hm hl hmc hlt HER).mono ?_; rintro e w2 ⟨rfl, b2⟩)
          go_roundw
          case rel => exact ⟨q + 1, by omega, by go_num, HN, below_on hb b2⟩
          case measure => simp [intOf]; omega
        · have hre : (q, er) = (p, r) := by rw [← HK2.out, fir_hit hlt (by rw [her]; exact h0), her]
          obtain ⟨rfl, rfl⟩ := Prod.mk.inj hre
          have n1 : ((er : Int) != 0) = true := by simp; omega
          clear her h0 hre
          go_wp2_with (go_at_call 39; refine (checkStruct_any _ _ m ss q er _ hk4.out hr4.out hm hl hmc hlt HER).mono ?_; rintro e w2 ⟨rfl, b2⟩)
          go_ret2
          exact ⟨rfl, below_on hb b2⟩
      · have hre : (0, 0) = (p, r) := by rw [← HK2.out, fir_end (by omega)]
        obtain ⟨rfl, rfl⟩ := Prod.mk.inj hre
        clear hre
        go_wp2_with fail
        go_ret2
        exact ⟨rfl, hb⟩

end Go.Proofs.YtjgmhkplgenieaaDoor
