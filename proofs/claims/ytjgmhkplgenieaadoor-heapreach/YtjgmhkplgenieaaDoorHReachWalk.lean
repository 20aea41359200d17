/-
  THE WALK of the statement on who is reached: it answers true, and of what was there nothing has turned. Conditions: the table of keys lies as the program's text lays it; the arguments read as structs, deeds and numbers.
-/
import Derived.Test.YtjgmhkplgenieaaDoorHKeepsWalk
import Derived.Test.YtjgmhkplgenieaaDoorHMono
namespace Go.Proofs.YtjgmhkplgenieaaDoor
open Go.RowKit

structure RR (W : World) (F : Nat → Prop) (v : Value) (H : Option Hp) (RA A : Option Addr) (roots rs : List Int) (wr : World) : Prop where
  sp : SP W wr F v H
  rt : IRz wr RA roots
  ir : IRz wr A rs
  bl : Below W.heap.size W wr
section
variable {W wr w' : World} {F : Nat → Prop} {v : Value} {H H' : Option Hp} {RA A : Option Addr} {roots rs : List Int}
theorem RR.read (h : RR W F v H RA A roots rs wr) (hb : Below wr.heap.size wr w') : RR W F v H RA A roots rs w' :=
  ⟨h.sp.read hb, h.rt.below hb (Nat.le_refl _), h.ir.below hb (Nat.le_refl _), h.bl.trans (hb.mono h.bl.size)⟩
theorem RR.turn (h : RR W F v H RA A roots rs wr) (hs : Sv (My W F) wr w') (hp : SP W w' F v H') (hr : IRz W RA roots) (hA : 0 < rs.length → ∀ a, A = some a → F a.block) : RR W F v H' RA A roots rs w' :=
  have hb := h.bl.trans (my_below hs h.bl.size)
  ⟨hp, hr.below hb (Nat.le_refl _), h.ir.sv hs (fun h0 a ha h2 => h2.2 (hA h0 a ha)), hb⟩
end
def RLoop (W : World) (F : Nat → Prop) (v : Value) (H : Option Hp) (RA A : Option Addr) (roots rs : List Int) (m : Nat) (i : Value) (wr : World) : Prop :=
  ∃ k : Nat, k ≤ m ∧ i = .int .i64 k ∧ Hid (RR W F v H RA A roots rs wr)
def RLoop2 (W : World) (F : Nat → Prop) (v : Value) (H : Option Hp) (RA A B : Option Addr) (roots rs ls : List Int) (m : Nat) (i : Value) (wr : World) : Prop :=
  ∃ k : Nat, k ≤ m ∧ i = .int .i64 k ∧ Hid (RR W F v H RA A roots rs wr) ∧ Hid (IRz wr B ls)
def RLed (W : World) (F : Nat → Prop) (v : Value) (H : Option Hp) (RA A : Option Addr) (roots rs : List Int) (m : Nat) (x : Int) (i j : Value) (wr : World) : Prop :=
  ∃ (k : Nat) (b : Bool), k ≤ m ∧ i = .int .i64 k ∧ j = .bool b ∧ Hid (ledB H roots rs x k = b) ∧ Hid (RR W F v H RA A roots rs wr)
theorem IRz.tail {w : World} {b o : Nat} {l : List Int} (h : IRz w (some ⟨b, o, none⟩) l) : IRz w (some ⟨b, o + 1, none⟩) l.tail := by
  intro h0
  have h1 : 0 < l.length := by rw [List.length_tail] at h0; omega
  obtain ⟨b2, o2, e, hb, hc⟩ := h h1
  cases e
  refine ⟨b, o + 1, rfl, hb, fun k n hn => ?_⟩
  rw [Nat.add_assoc, Nat.add_comm 1 k]
  exact hc (k + 1) n (by rw [← hn, List.getElem?_tail])

set_option maxRecDepth 100000 in
set_option maxHeartbeats 4000000 in
theorem reach_true (A B C : Option Addr) (c c2 c3 m n q : Nat) (ss : List Str) (l : List Deed) (rt : List Int) (o f : Int) (W : World) (hK : KeysIn W) (hR : SR W A ss) (hA : AR W B l) (hI : IRz W C rt) (hm : Hid (ss.length = m)) (hn : Hid (l.length = n)) (hq : Hid (rt.length = q)) (hl : m ≤ 281474976710656) (hmc : m ≤ c) (hl2 : n ≤ 281474976710656) (hl3 : q ≤ 281474976710656) (hqc : q ≤ c3) :
    Calls Tryd.prog 4 #[.slice A m c, .slice B n c2, .slice C q c3, .int .i64 o, .int .i64 f] W fun e w' => e = .returned (.bool true) ∧ Below W.heap.size W w' := by
  have HK := Lib.hid hK
  have HR := Lib.hid hR
  have HA := Lib.hid hA
  have HI := Lib.hid hI
  obtain ⟨gb, hgb⟩ : ∃ gb, grB ss = gb := ⟨_, rfl⟩
  have HGB := Lib.hid hgb
  clear hK hR hA hI hgb
  go_enter Tryd.func4, Tryd.ntmps4
  go_wp2_with (first | (go_at_call 6; refine (awake_true _ HK.out).mono ?_; rintro e w1 ⟨rfl, hb1⟩; refine Hid.out ?_))
  have B1 := Lib.hid hb1
  have HR1 := Lib.hid (HR.out.below hb1 (Nat.le_refl _))
  clear hb1
  refine Lib.hid ?_
  cases gb with
  | true =>
    go_wp2_with (go_at_call 7; refine (great_any A c m ss true _ HR1.out hm hl HGB).mono ?_; rintro e w2 ⟨rfl, rfl⟩)
    go_ret
    exact ⟨rfl, B1.out⟩
  | false =>
    by_cases h80 : 80 < n
    · have h80' : (80 : Int) < (n : Int) := by omega
      go_wp2_with (go_at_call 7; refine (great_any A c m ss false _ HR1.out hm hl HGB).mono ?_; rintro e w2 ⟨rfl, rfl⟩)
      go_ret
      exact ⟨rfl, B1.out⟩
    · have h80' : ¬ (80 : Int) < (n : Int) := by omega
      by_cases h20 : 20 < q
      · have h20' : (20 : Int) < (q : Int) := by omega
        go_wp2_with (go_at_call 7; refine (great_any A c m ss false _ HR1.out hm hl HGB).mono ?_; rintro e w2 ⟨rfl, rfl⟩)
        go_ret
        exact ⟨rfl, B1.out⟩
      · have h20' : ¬ (20 : Int) < (q : Int) := by omega
        obtain ⟨H0, hH0⟩ : ∃ H0, newO ss = H0 := ⟨_, rfl⟩
        have HK1 : Hid (KeysIn w1) := HK.out.below B1.out (Nat.le_refl _)
        go_wp2_with (first | (go_at_call 7; refine (great_any A c m ss false _ HR1.out hm hl HGB).mono ?_; rintro e w2 ⟨rfl, rfl⟩) | (go_at_call 8; refine (new_sp A c m ss H0 W _ B1.out.size HK1 HR1 hm hl hmc hH0).mono ?_; rintro e w2 ⟨v, rfl, hb2, hs2⟩; refine Hid.out ?_))
        have B2 := Lib.hid (B1.out.trans (hb2.mono B1.out.size))
        have S2 := Lib.hid hs2
        clear hb2 hs2 HR1 HK1 B1 hH0
        refine Lib.hid ?_
        go_wp2_with fail
        go_loopw [12] (fun i wr => ActRel W v H0 l n i wr) (fun i _ => n - (intOf i).toNat)
        case atStart => exact ⟨0, Nat.zero_le _, rfl, S2, B2⟩
        case round =>
          obtain ⟨k, hk, rfl, HS, HB⟩ := hrel
          by_cases hlt : k < n
          · obtain ⟨a, ha⟩ : ∃ a, l[k]? = some a := ⟨_, List.getElem?_eq_getElem (by have := hn.out; omega)⟩
            obtain ⟨ab, ao, rfl, hag, hac⟩ := HA.out (by have := hn.out; omega)
            obtain ⟨c0, c1, y2, y3, y4⟩ := hac k a ha
            have c0 := (HB.out.cell (p := ⟨ab, ao + k * 5, none⟩) hag).trans c0
            have c1 := (HB.out.cell (p := ⟨ab, ao + k * 5 + 1, none⟩) hag).trans c1
            have d2 := (HB.out.cell (p := ⟨ab, ao + k * 5 + 2, none⟩) hag).trans y2
            have c3 := (HB.out.cell (p := ⟨ab, ao + k * 5 + 3, none⟩) hag).trans y3
            have c4 := (HB.out.cell (p := ⟨ab, ao + k * 5 + 4, none⟩) hag).trans y4
            have hrt := runA_take (H := H0) ha
            clear hac ha
            by_cases hk2 : a.kind ≤ 2
            · obtain ⟨⟨H', q, r⟩, hmk⟩ : ∃ y, makeO (runA H0 (l.take k)) a.name = y := ⟨_, rfl⟩
              have hrt2 : Hid (runA H0 (l.take (k + 1)) = H') := by show _ = _; rw [hrt]; unfold actO; rw [if_pos hk2, hmk]
              have HMK := Lib.hid hmk
              clear hrt hmk
              go_wp2_with (go_at_call 10; refine (HS.out.make (fun _ h => h.elim) HB.out.size a.name H' q r HMK).mono ?_; rintro e w3 ⟨rfl, hs3, hp3⟩)
              go_roundw
              case rel => exact ⟨k + 1, by omega, by go_num, by show SP _ _ _ _ _; rw [hrt2.out]; exact hp3, HB.out.trans (my_below hs3 HB.out.size)⟩
              case measure => simp [intOf]; omega
            · have hrt2 : Hid (runA H0 (l.take (k + 1)) = setO (runA H0 (l.take k)) a.obj a.field a.n) := by show _ = _; rw [hrt]; unfold actO; rw [if_neg hk2]
              clear hrt
              go_wp2_with fail
              have HSd := Lib.hid (HS.out.read ((Below.refl wr.heap.size wr).drew))
              have HBd := Lib.hid HB.out.drew
              go_region_held3 (fun w' => w'.cell? ⟨ab, ao + k * 5 + 2, none⟩ = some (.int .i64 a.obj) ∧ w'.cell? ⟨ab, ao + k * 5 + 3, none⟩ = some (.int .i64 a.field) ∧ w'.cell? ⟨ab, ao + k * 5 + 4, none⟩ = some (.int .i64 a.n)) (first | exact ⟨d2, c3, c4⟩ | exact ⟨e2, e3, e4⟩) (first | (go_at_call 12; refine (HSd.out.set a.obj a.field a.n _ rfl _ hrt2.out.symm).mono ?_; rintro e w3 ⟨rfl, hs3, hp3⟩; have hb3 := HBd.out.trans (my_below hs3 HBd.out.size); have e2 := (hb3.cell (p := ⟨ab, ao + k * 5 + 2, none⟩) hag).trans y2; have e3 := (hb3.cell (p := ⟨ab, ao + k * 5 + 3, none⟩) hag).trans y3; have e4 := (hb3.cell (p := ⟨ab, ao + k * 5 + 4, none⟩) hag).trans y4))
              all_goals
                go_wp2_with fail
                go_roundw
                case rel => exact ⟨k + 1, by omega, by go_num, hp3, hb3⟩
                case measure => simp [intOf]; omega
          · obtain rfl : k = n := by omega
            have HS2 : Hid (SP W wr NoF v (runA H0 l)) := by
              have := HS.out
              rw [List.take_of_length_le (by rw [hn.out]; exact Nat.le_refl _)] at this
              exact this
            generalize runA H0 l = H at *
            have hle : lenO H ≤ 131072 := by have := HS2.out.lenle; exact this
            have HIr := Lib.hid (HI.out.below HB.out (Nat.le_refl _))
            clear HS
            go_wp2_with (first | (go_at_call 16; refine (HS2.out.reach q c3 rt C HIr.out hq hl3).mono ?_; rintro e w3 ⟨RA, rc, rs, hrc, hrl, rfl, hir, hb3, hra⟩; refine Hid.out ?_))
            have HRC := Lib.hid hrc
            obtain ⟨F, hF⟩ : ∃ F, Nw wr w3 = F := ⟨_, rfl⟩
            have T3 : Hid (RR W F v H C RA rt rs w3) := ⟨by rw [← hF]; exact HS2.out.beside hb3, HIr.out.below hb3 (Nat.le_refl _), hir, HB.out.trans (hb3.mono HB.out.size)⟩
            have HRF : Hid (0 < rs.length → ∀ a, RA = some a → F a.block) := by
              intro h0 a ha
              obtain ⟨b, o2, e, h1, _⟩ := hir h0
              rw [ha] at e
              cases e
              rw [← hF]
              exact ⟨hra _ ha, h1⟩
            obtain ⟨rm, hrm⟩ : ∃ rm, rs.length = rm := ⟨_, rfl⟩
            rw [hrm]
            have hrm8 : rm ≤ 131072 := by omega
            have HRM := Lib.hid hrm
            clear hrc hrl hir hb3 hra hF hrm HS2 HIr HB
            refine Lib.hid ?_
            go_wp2_with fail
            go_loopw [14] (fun i wr => RLoop W F v H C RA rt rs rm i wr) (fun i _ => rm - (intOf i).toNat)
            case atStart => exact ⟨0, Nat.zero_le _, rfl, T3⟩
            case round =>
              obtain ⟨k, hk, rfl, HT⟩ := hrel
              by_cases hlt : k < rm
              · obtain ⟨x, hx⟩ : ∃ x, rs[k]? = some x := ⟨_, List.getElem?_eq_getElem (by have := HRM.out; omega)⟩
                obtain ⟨rb, ro, rfl, hrb, hrc⟩ := HT.out.ir (by have := HRM.out; omega)
                have c0 := hrc k x hx
                have hlt' : (k : Int) < (rm : Int) := by omega
                have HX := Lib.hid hx
                have HXM := Lib.hid (List.mem_of_getElem? hx)
                clear hx hrc
                obtain ⟨lb, hlb⟩ : ∃ lb, rt.contains x = lb := ⟨_, rfl⟩
                have HLB := Lib.hid hlb
                clear hlb
                go_wp2_with (first | (go_at_call 15; refine (HT.out.sp.near x).mono ?_; rintro e w4 ⟨NA, nc, rfl, hir4, hb4, _⟩; have HT4 := Lib.hid (HT.out.read hb4); have c4 := (hb4.cell (p := ⟨rb, ro + k, none⟩) hrb).trans c0; have HI4 := Lib.hid hir4; clear hb4 hir4) | (go_at_call 22; refine (has_any C c3 q rt x lb _ HT4.out.rt hq hl3 HLB).mono ?_; rintro e w5 ⟨rfl, rfl⟩; refine Hid.out ?_))
                obtain ⟨nl, hnl⟩ : ∃ nl, (nearO H x).length = nl := ⟨_, rfl⟩
                rw [hnl]
                have hn8 : nl ≤ 8 := by rw [← hnl]; exact near_len8 H x
                have HNL := Lib.hid hnl
                clear hnl c4 c0
                refine Lib.hid ?_
                go_wp2_with fail
                go_loopw [17] (fun i wr => RLoop2 W F v H C (some ⟨rb, ro, none⟩) NA rt rs (nearO H x) nl i wr) (fun i _ => nl - (intOf i).toNat)
                case atStart => exact ⟨0, Nat.zero_le _, rfl, HT4, HI4⟩
                case round =>
                  obtain ⟨j, hj, rfl, HTj, HIj⟩ := hrel
                  by_cases hlt2 : j < nl
                  · obtain ⟨y, hy⟩ : ∃ y, (nearO H x)[j]? = some y := ⟨_, List.getElem?_eq_getElem (by have := HNL.out; omega)⟩
                    obtain ⟨nb, no, rfl, hnb, hnc⟩ := HIj.out (by have := HNL.out; omega)
                    have c5 := hnc j y hy
                    have hyr : Hid (rs.contains y = true) := by
                      show _ = _
                      rw [List.contains_iff_mem]
                      exact (HRC.out.mem y).2 (.step ((HRC.out.mem x).1 HXM.out) (List.mem_of_getElem? hy))
                    clear hy hnc
                    go_wp2_with (go_at_call 22; refine (has_any (some ⟨rb, ro, none⟩) rc rm rs y true _ HTj.out.ir HRM (by omega) hyr).mono ?_; rintro e w5 ⟨rfl, rfl⟩)
                    go_roundw
                    case rel => exact ⟨j + 1, by omega, by go_num, HTj, HIj⟩
                    case measure => simp [intOf]; omega
                  · obtain rfl : j = nl := by omega
                    go_wp2_with fail
                    go_loopw [18, 16] (fun i b wr => RLed W F v H C (some ⟨rb, ro, none⟩) rt rs rm x i b wr) (fun i _ _ => rm - (intOf i).toNat)
                    case atStart => exact ⟨0, lb, Nat.zero_le _, rfl, rfl, by show ledB _ _ _ _ _ = _; unfold ledB; rw [List.take_zero, List.any_nil, Bool.or_false]; exact HLB.out, HTj⟩
                    case round =>
                      obtain ⟨p, b, hp, rfl, rfl, HLED, HTp⟩ := hrel
                      by_cases hlt3 : p < rm
                      · obtain ⟨y, hy⟩ : ∃ y, rs[p]? = some y := ⟨_, List.getElem?_eq_getElem (by have := HRM.out; omega)⟩
                        have hst := led_step (H := H) (roots := rt) (x := x) hy
                        rw [HLED.out] at hst
                        have HST := Lib.hid hst
                        obtain ⟨rb2, ro2, e2, hrb2, hrc2⟩ := HTp.out.ir (by have := HRM.out; omega)
                        cases e2
                        have c0 := hrc2 k x HX.out
                        have c6 := hrc2 p y hy
                        have p1 : (0 : Int) ≤ (k : Int) := by omega
                        have p2 : (0 : Int) ≤ (p : Int) := by omega
                        have p3 : (p : Int) < (rm : Int) := by omega
                        clear hy hst hrc2
                        cases b with
                        | true =>
                          have HST2 : Hid (ledB H rt rs x (p + 1) = true) := HST.out
                          clear HST
                          go_wp2_with fail
                          go_quiet (fail)
                          go_wp2_with fail
                          go_roundw
                          case rel => exact ⟨p + 1, true, by omega, by go_num, rfl, HST2, HTp.out.read (below_drewN (Below.refl _ _) nq)⟩
                          case measure => simp [intOf]; omega
                        | false =>
                          obtain ⟨b2, hb2⟩ : ∃ b2, (nearO H y).contains x = b2 := ⟨_, rfl⟩
                          have HB2 := Lib.hid hb2
                          have HST2 : Hid (ledB H rt rs x (p + 1) = b2) := by show _ = _; rw [HST.out, hb2]; rfl
                          clear HST hb2
                          go_wp2_with fail
                          have HTd := Lib.hid (HTp.out.read ((Below.refl wr.heap.size wr).drew))
                          have h8 : (nearO H y).length ≤ 281474976710656 := by have := near_len8 H y; omega
                          have H8 := Lib.hid h8
                          clear h8
                          go_region_held3 (fun w' => w'.cell? ⟨rb, ro + p, none⟩ = some (.int .i64 y) ∧ w'.cell? ⟨rb, ro + k, none⟩ = some (.int .i64 x)) (first | exact ⟨c6, c0⟩ | exact ⟨e6, e0⟩) (first | (go_at_call 15; refine (HTd.out.sp.near y).mono ?_; rintro e w6 ⟨NB, nc2, rfl, hir6, hb6, _⟩; have HT6 := Lib.hid (HTd.out.read hb6); have e6 := (hb6.cell (p := ⟨rb, ro + p, none⟩) hrb2).trans c6; have e0 := (hb6.cell (p := ⟨rb, ro + k, none⟩) hrb2).trans c0; have HI6 := Lib.hid hir6; clear hir6 hb6) | (go_at_call 22; refine (has_any NB nc2 _ (nearO H y) x b2 _ HI6.out rfl H8.out HB2).mono ?_; rintro e w7 ⟨rfl, rfl⟩))
                          all_goals
                            go_wp2_with fail
                            go_roundw
                            case rel => exact ⟨p + 1, b2, by omega, by go_num, rfl, HST2, HT6⟩
                            case measure => simp [intOf]; omega
                      · obtain rfl : rm = p := by omega
                        have hbt : b = true := by
                          rw [← HLED.out, ← HRM.out]
                          exact led_all HRC.out HXM.out
                        subst hbt
                        obtain ⟨rb2, ro2, e2, hrb2, hrc2⟩ := HTp.out.ir (by have := HRM.out; omega)
                        cases e2
                        have c0 := hrc2 k x HX.out
                        cases k with
                        | zero =>
                          clear hrc2
                          go_wp2_with fail
                          go_quiet (fail)
                          go_wp2_with fail
                          go_roundw
                          case rel => exact ⟨0 + 1, by omega, by go_num, HTp.out.read (below_drewN (Below.refl _ _) nq)⟩
                          case measure => simp [intOf]; omega
                        | succ k =>
                          obtain ⟨z, hz⟩ : ∃ z, rs[k]? = some z := ⟨_, List.getElem?_eq_getElem (by have := HRM.out; omega)⟩
                          have c7 := hrc2 k z hz
                          have hzx : z < x := by
                            have h1 := (List.pairwise_iff_getElem.1 HRC.out.lt) k (k + 1) (by have := HRM.out; omega) (by have := HRM.out; omega) (by omega)
                            have h2 := (List.getElem?_eq_some_iff.1 hz).2
                            have h3 := (List.getElem?_eq_some_iff.1 HX.out).2
                            rw [h2, h3] at h1
                            exact h1
                          have hd : decide (x ≤ z) = false := decide_eq_false (by omega)
                          have hw : IntKind.i64.wrap (((k + 1 : Nat) : Int) - 1) = (k : Int) := by rw [show ((k + 1 : Nat) : Int) - 1 = k by omega]; exact IntWalk.i64_in _ (by omega)
                          have p1 : (0 : Int) ≤ ((k + 1 : Nat) : Int) := by omega
                          have p2 : (0 : Int) ≤ (k : Int) := by omega
                          have p3 : (k : Int) < (rm : Int) := by omega
                          have p4 : (0 : Int) < ((k + 1 : Nat) : Int) := by omega
                          clear hrc2 hz hzx
                          go_wp2_with fail
                          go_quiet (fail)
                          go_wp2_with fail
                          go_roundw
                          case rel => exact ⟨k + 1 + 1, by omega, by go_num, HTp.out.read (below_drewN (Below.refl _ _) nq)⟩
                          case measure => simp [intOf]; omega
              · obtain rfl : rm = k := by omega
                by_cases hq0 : 0 < q
                · obtain ⟨cb, co, rfl, hcb, hcc⟩ := HI.out (by have := hq.out; omega)
                  have hq0' : (0 : Int) < (q : Int) := by omega
                  have hq1 : Hid (rt.tail.length = q - 1) := by show _ = _; rw [List.length_tail, hq.out]
                  have HT8 := Lib.hid HT.out.rt.tail
                  clear hcc
                  go_wp2_with (first | (go_at_call 16; refine Hid.out ?_))
                  all_goals
                    refine Lib.hid ?_
                    refine (HT.out.sp.reach (q - 1) _ rt.tail _ (by first | exact HT8.out | (intro h0; exfalso; rw [hq1.out] at h0; omega)) hq1 (by omega)).mono ?_
                    rintro e w8 ⟨LA, lc, ls, hrcl, hlsl, rfl, hirl, hbl8, hla⟩
                    have hll : ls.length ≤ 131072 := by omega
                    obtain ⟨lm, hlm⟩ : ∃ lm, ls.length = lm := ⟨_, rfl⟩
                    rw [hlm]
                    rw [hlm] at hll
                    have HLM := Lib.hid hlm
                    have HRCL := Lib.hid hrcl
                    have T8 := Lib.hid (HT.out.read hbl8)
                    have HIL := Lib.hid hirl
                    clear hrcl hlsl hirl hbl8 hla hlm
                    go_wp2_with fail
                    go_loopw [20] (fun i wr => RLoop2 W F v H _ RA LA rt rs ls lm i wr) (fun i _ => lm - (intOf i).toNat)
                    case atStart => exact ⟨0, Nat.zero_le _, rfl, T8, HIL⟩
                    case round =>
                      obtain ⟨j, hj, rfl, HS9, HIj⟩ := hrel
                      by_cases hlt2 : j < lm
                      · obtain ⟨y, hy⟩ : ∃ y, ls[j]? = some y := ⟨_, List.getElem?_eq_getElem (by have := HLM.out; omega)⟩
                        obtain ⟨nb, no, rfl, hnb, hnc⟩ := HIj.out (by have := HLM.out; omega)
                        have c5 := hnc j y hy
                        have hyr : Hid (rs.contains y = true) := by
                          show _ = _
                          rw [List.contains_iff_mem]
                          exact (HRC.out.mem y).2 (rd_roots (fun z hz => List.mem_of_mem_tail hz) ((HRCL.out.mem y).1 (List.mem_of_getElem? hy)))
                        clear hy hnc
                        go_wp2_with (go_at_call 22; refine (has_any RA rc rm rs y true _ HS9.out.ir HRM (by omega) hyr).mono ?_; rintro e w5 ⟨rfl, rfl⟩)
                        go_roundw
                        case rel => exact ⟨j + 1, by omega, by go_num, HS9, HIj⟩
                        case measure => simp [intOf]; omega
                      · skip
                        obtain ⟨er, her⟩ : ∃ er, askO H o f = er := ⟨_, rfl⟩
                        have HER := Lib.hid her
                        clear her
                        go_wp2_with (first | (go_at_call 12; refine (HS9.out.sp.set o f 0 er HER _ rfl).mono ?_; rintro e wa ⟨rfl, hsa, hpa⟩; refine Hid.out ?_))
                        have TA := Lib.hid (HS9.out.turn hsa hpa HI.out HRF.out)
                        clear hsa hpa
                        refine Lib.hid ?_
                        go_wp2_with (first | (go_at_call 16; refine Hid.out ?_))
                        refine Lib.hid ?_
                        refine (TA.out.sp.reach q _ rt (some ⟨cb, co, none⟩) TA.out.rt hq hl3).mono ?_
                        rintro e wb ⟨BA, bc, bs, hrcb, hblb, rfl, hirb, hbb, hba⟩
                        have hbl : bs.length ≤ 131072 := by
                          have h1 := TA.out.sp.lenle
                          omega
                        obtain ⟨bm, hbm⟩ : ∃ bm, bs.length = bm := ⟨_, rfl⟩
                        rw [hbm]
                        rw [hbm] at hbl
                        have HBM := Lib.hid hbm
                        have HRCB := Lib.hid hrcb
                        have TB := Lib.hid (TA.out.read hbb)
                        have HIB := Lib.hid hirb
                        clear hrcb hblb hirb hbb hba hbm
                        go_wp2_with fail
                        go_loopw [22] (fun i wr => RLoop2 W F v (setO H o f 0) _ RA BA rt rs bs bm i wr) (fun i _ => bm - (intOf i).toNat)
                        case atStart => exact ⟨0, Nat.zero_le _, rfl, TB, HIB⟩
                        case round =>
                          obtain ⟨j, hj, rfl, HTj, HIj⟩ := hrel
                          by_cases hlt2 : j < bm
                          · obtain ⟨y, hy⟩ : ∃ y, bs[j]? = some y := ⟨_, List.getElem?_eq_getElem (by have := HBM.out; omega)⟩
                            obtain ⟨nb, no, rfl, hnb, hnc⟩ := HIj.out (by have := HBM.out; omega)
                            have c5 := hnc j y hy
                            have hyr : Hid (rs.contains y = true) := by
                              show _ = _
                              rw [List.contains_iff_mem]
                              exact (HRC.out.mem y).2 (rd_set0 ((HRCB.out.mem y).1 (List.mem_of_getElem? hy)))
                            clear hy hnc
                            go_wp2_with (go_at_call 22; refine (has_any RA rc rm rs y true _ HTj.out.ir HRM (by omega) hyr).mono ?_; rintro e w5 ⟨rfl, rfl⟩)
                            go_roundw
                            case rel => exact ⟨j + 1, by omega, by go_num, HTj, HIj⟩
                            case measure => simp [intOf]; omega
                          · go_wp2_with fail
                            go_ret
                            exact ⟨rfl, HTj.out.bl⟩
                · have hq0' : ¬ (0 : Int) < (q : Int) := by omega
                  have HS9 := HT
                  obtain ⟨er, her⟩ : ∃ er, askO H o f = er := ⟨_, rfl⟩
                  have HER := Lib.hid her
                  clear her
                  go_wp2_with (first | (go_at_call 12; refine (HS9.out.sp.set o f 0 er HER _ rfl).mono ?_; rintro e wa ⟨rfl, hsa, hpa⟩; refine Hid.out ?_))
                  have TA := Lib.hid (HS9.out.turn hsa hpa HI.out HRF.out)
                  clear hsa hpa
                  refine Lib.hid ?_
                  go_wp2_with (first | (go_at_call 16; refine Hid.out ?_))
                  refine Lib.hid ?_
                  refine (TA.out.sp.reach q _ rt C TA.out.rt hq hl3).mono ?_
                  rintro e wb ⟨BA, bc, bs, hrcb, hblb, rfl, hirb, hbb, hba⟩
                  have hbl : bs.length ≤ 131072 := by
                    have h1 := TA.out.sp.lenle
                    omega
                  obtain ⟨bm, hbm⟩ : ∃ bm, bs.length = bm := ⟨_, rfl⟩
                  rw [hbm]
                  rw [hbm] at hbl
                  have HBM := Lib.hid hbm
                  have HRCB := Lib.hid hrcb
                  have TB := Lib.hid (TA.out.read hbb)
                  have HIB := Lib.hid hirb
                  clear hrcb hblb hirb hbb hba hbm
                  go_wp2_with fail
                  go_loopw [22] (fun i wr => RLoop2 W F v (setO H o f 0) _ RA BA rt rs bs bm i wr) (fun i _ => bm - (intOf i).toNat)
                  case atStart => exact ⟨0, Nat.zero_le _, rfl, TB, HIB⟩
                  case round =>
                    obtain ⟨j, hj, rfl, HTj, HIj⟩ := hrel
                    by_cases hlt2 : j < bm
                    · obtain ⟨y, hy⟩ : ∃ y, bs[j]? = some y := ⟨_, List.getElem?_eq_getElem (by have := HBM.out; omega)⟩
                      obtain ⟨nb, no, rfl, hnb, hnc⟩ := HIj.out (by have := HBM.out; omega)
                      have c5 := hnc j y hy
                      have hyr : Hid (rs.contains y = true) := by
                        show _ = _
                        rw [List.contains_iff_mem]
                        exact (HRC.out.mem y).2 (rd_set0 ((HRCB.out.mem y).1 (List.mem_of_getElem? hy)))
                      clear hy hnc
                      go_wp2_with (go_at_call 22; refine (has_any RA rc rm rs y true _ HTj.out.ir HRM (by omega) hyr).mono ?_; rintro e w5 ⟨rfl, rfl⟩)
                      go_roundw
                      case rel => exact ⟨j + 1, by omega, by go_num, HTj, HIj⟩
                      case measure => simp [intOf]; omega
                    · go_wp2_with fail
                      go_ret
                      exact ⟨rfl, HTj.out.bl⟩

end Go.Proofs.YtjgmhkplgenieaaDoor
