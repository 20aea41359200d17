/-
  THE WALK of the statement on what is set and what stays: it answers true, and of what was there nothing has turned. Conditions: the table of keys lies as the program's text lays it; the arguments read as structs and deeds.
-/
import Derived.Test.YtjgmhkplgenieaaDoorHLaw
namespace Go.Proofs.YtjgmhkplgenieaaDoor
open Go.RowKit

theorem add_run3 {A : Value} (j : Nat) (hj : j < 12) (hA : A = .int .i64 (j : Int)) (w : World) : (binOp BinOp.add 3 A (.int .i64 1)).run Tryd.prog w = .ok (.int .i64 ((j : Int) + 1)) w := by
  have h : IntKind.i64.wrap ((j : Int) + 1) = (j : Int) + 1 := IntWalk.i64_in _ (by omega)
  have h2 : (binOp BinOp.add 3 (.int .i64 (j : Int)) (.int .i64 1)).run Tryd.prog w = .ok (.int .i64 (IntKind.i64.wrap ((j : Int) + 1))) w := by kernel_rfl
  rw [hA, h2, h]
theorem eqg {A B : Value} (a b : Int) (hA : A = .int .i64 a) (hB : B = .int .i64 b) (op : BinOp) (t : TypeId) (x y : Operand) (w : World) : (eqGuard op t x y A B).run Tryd.prog w = .ok () w := by
  subst hA hB
  cases op <;> kernel_rfl
theorem eq_run3 {A B : Value} (a b : Int) (c : Bool) (hA : A = .int .i64 a) (hB : B = .int .i64 b) (h : (a == b) = c) (w : World) : (binOp BinOp.eql 3 A B).run Tryd.prog w = .ok (.bool c) w := by
  rw [hA, hB, ← h]; kernel_rfl
theorem ne_run3 {A B : Value} (a b : Int) (c : Bool) (hA : A = .int .i64 a) (hB : B = .int .i64 b) (h : (a == b) = c) (w : World) : (binOp BinOp.neq 3 A B).run Tryd.prog w = .ok (.bool (!c)) w := by
  rw [hA, hB, ← h]; kernel_rfl
theorem eq_run31 {A B : Value} (a b : Int) (c : Bool) (hA : A = .int .i64 a) (hB : B = .int .i64 b) (h : (a == b) = c) (w : World) : (binOp BinOp.eql 31 A B).run Tryd.prog w = .ok (.bool c) w := by
  rw [hA, hB, ← h]; kernel_rfl
theorem ne_run31 {A B : Value} (a b : Int) (c : Bool) (hA : A = .int .i64 a) (hB : B = .int .i64 b) (h : (a == b) = c) (w : World) : (binOp BinOp.neq 31 A B).run Tryd.prog w = .ok (.bool (!c)) w := by
  rw [hA, hB, ← h]; kernel_rfl
def ActRel (W : World) (v : Value) (H : Option Hp) (l : List Deed) (n : Nat) (i : Value) (wr : World) : Prop :=
  ∃ k : Nat, k ≤ n ∧ i = .int .i64 k ∧ Hid (SP W wr NoF v (runA H (l.take k))) ∧ Hid (Below W.heap.size W wr)
structure TwoRel (W : World) (F : Nat → Prop) (v v2 : Value) (H' H : Option Hp) (wr : World) : Prop where
  sp : SP W wr F v H'
  pm : PM wr F v2 H
  bl : Below W.heap.size W wr
theorem TwoRel.read {W : World} {F : Nat → Prop} {v v2 : Value} {H' H : Option Hp} {wr w' : World} (h : TwoRel W F v v2 H' H wr) (hb : Below wr.heap.size wr w') : TwoRel W F v v2 H' H w' :=
  ⟨h.sp.read hb, h.pm.below hb, h.bl.trans (hb.mono h.bl.size)⟩
def GoRel (W : World) (F : Nat → Prop) (v v2 : Value) (H' H : Option Hp) (m : Nat) (i : Value) (wr : World) : Prop :=
  ∃ k : Nat, 1 ≤ k ∧ k ≤ m + 1 ∧ i = .int .i64 k ∧ Hid (TwoRel W F v v2 H' H wr)
def GoRel2 (W : World) (F : Nat → Prop) (v v2 : Value) (H' H : Option Hp) (i : Value) (wr : World) : Prop :=
  ∃ k : Nat, k ≤ 12 ∧ i = .int .i64 k ∧ Hid (TwoRel W F v v2 H' H wr)

set_option maxRecDepth 100000 in
set_option maxHeartbeats 4000000 in
theorem keeps_true (A B : Option Addr) (c c2 m n : Nat) (ss : List Str) (l : List Deed) (o f x : Int) (W : World) (hK : KeysIn W) (hR : SR W A ss) (hA : AR W B l) (hm : Hid (ss.length = m)) (hn : Hid (l.length = n)) (hl : m ≤ 281474976710656) (hmc : m ≤ c) (hl2 : n ≤ 281474976710656) :
    Calls Tryd.prog 5 #[.slice A m c, .slice B n c2, .int .i64 o, .int .i64 f, .int .i64 x] W fun e w' => e = .returned (.bool true) ∧ Below W.heap.size W w' := by
  have HK := Lib.hid hK
  have HR := Lib.hid hR
  have HA := Lib.hid hA
  obtain ⟨gb, hgb⟩ : ∃ gb, grB ss = gb := ⟨_, rfl⟩
  have HGB := Lib.hid hgb
  clear hK hR hA hgb
  go_enter Tryd.func5, Tryd.ntmps5
  go_wp2_with (first | (go_at_call 6; refine (awake_true _ HK.out).mono ?_; rintro e w1 ⟨rfl, hb1⟩; refine Hid.out ?_))
  have B1 := Lib.hid hb1
  have HR1 := Lib.hid (HR.out.below hb1 (Nat.le_refl _))
  clear hb1
  refine Lib.hid ?_
  cases gb with
  | true =>
    go_wp2_with (go_at_call 7; refine (great_any A c m ss true _ HR1.out hm hl HGB).mono ?_; rintro e w2 ⟨rfl, rfl⟩)
    go_ret
    exact ⟨rfl, B1.out⟩
  | false =>
    by_cases h80 : 80 < n
    · have h80' : (80 : Int) < (n : Int) := by omega
      go_wp2_with (go_at_call 7; refine (great_any A c m ss false _ HR1.out hm hl HGB).mono ?_; rintro e w2 ⟨rfl, rfl⟩)
      go_ret
      exact ⟨rfl, B1.out⟩
    · have h80' : ¬ (80 : Int) < (n : Int) := by omega
      obtain ⟨H0, hH0⟩ : ∃ H0, newO ss = H0 := ⟨_, rfl⟩
      have HK1 : Hid (KeysIn w1) := HK.out.below B1.out (Nat.le_refl _)
      go_wp2_with (first | (go_at_call 7; refine (great_any A c m ss false _ HR1.out hm hl HGB).mono ?_; rintro e w2 ⟨rfl, rfl⟩) | (go_at_call 8; refine (new_sp A c m ss H0 W _ B1.out.size HK1 HR1 hm hl hmc hH0).mono ?_; rintro e w2 ⟨v, rfl, hb2, hs2⟩; refine Hid.out ?_))
      have B2 := Lib.hid (B1.out.trans (hb2.mono B1.out.size))
      have S2 := Lib.hid hs2
      clear hb2 hs2 HR1 HK1 B1 hH0
      refine Lib.hid ?_
      go_wp2_with fail
      go_loopw [12] (fun i wr => ActRel W v H0 l n i wr) (fun i _ => n - (intOf i).toNat)
      case atStart => exact ⟨0, Nat.zero_le _, rfl, S2, B2⟩
      case round =>
        obtain ⟨k, hk, rfl, HS, HB⟩ := hrel
        by_cases hlt : k < n
        · obtain ⟨a, ha⟩ : ∃ a, l[k]? = some a := ⟨_, List.getElem?_eq_getElem (by have := hn.out; omega)⟩
          obtain ⟨ab, ao, rfl, hag, hac⟩ := HA.out (by have := hn.out; omega)
          obtain ⟨c0, c1, y2, y3, y4⟩ := hac k a ha
          have c0 := (HB.out.cell (p := ⟨ab, ao + k * 5, none⟩) hag).trans c0
          have c1 := (HB.out.cell (p := ⟨ab, ao + k * 5 + 1, none⟩) hag).trans c1
          have d2 := (HB.out.cell (p := ⟨ab, ao + k * 5 + 2, none⟩) hag).trans y2
          have c3 := (HB.out.cell (p := ⟨ab, ao + k * 5 + 3, none⟩) hag).trans y3
          have c4 := (HB.out.cell (p := ⟨ab, ao + k * 5 + 4, none⟩) hag).trans y4
          have hrt := runA_take (H := H0) ha
          clear hac ha
          by_cases hk2 : a.kind ≤ 2
          · obtain ⟨⟨H', q, r⟩, hmk⟩ : ∃ y, makeO (runA H0 (l.take k)) a.name = y := ⟨_, rfl⟩
            have hrt2 : Hid (runA H0 (l.take (k + 1)) = H') := by show _ = _; rw [hrt]; unfold actO; rw [if_pos hk2, hmk]
            have HMK := Lib.hid hmk
            clear hrt hmk
            go_wp2_with (go_at_call 10; refine (HS.out.make (fun _ h => h.elim) HB.out.size a.name H' q r HMK).mono ?_; rintro e w3 ⟨rfl, hs3, hp3⟩)
            go_roundw
            case rel => exact ⟨k + 1, by omega, by go_num, by show SP _ _ _ _ _; rw [hrt2.out]; exact hp3, HB.out.trans (my_below hs3 HB.out.size)⟩
            case measure => simp [intOf]; omega
          · have hrt2 : Hid (runA H0 (l.take (k + 1)) = setO (runA H0 (l.take k)) a.obj a.field a.n) := by show _ = _; rw [hrt]; unfold actO; rw [if_neg hk2]
            clear hrt
            go_wp2_with fail
            have HSd := Lib.hid (HS.out.read ((Below.refl wr.heap.size wr).drew))
            have HBd := Lib.hid HB.out.drew
            go_region_held3 (fun w' => w'.cell? ⟨ab, ao + k * 5 + 2, none⟩ = some (.int .i64 a.obj) ∧ w'.cell? ⟨ab, ao + k * 5 + 3, none⟩ = some (.int .i64 a.field) ∧ w'.cell? ⟨ab, ao + k * 5 + 4, none⟩ = some (.int .i64 a.n)) (first | exact ⟨d2, c3, c4⟩ | exact ⟨e2, e3, e4⟩) (first | (go_at_call 12; refine (HSd.out.set a.obj a.field a.n _ rfl _ hrt2.out.symm).mono ?_; rintro e w3 ⟨rfl, hs3, hp3⟩; have hb3 := HBd.out.trans (my_below hs3 HBd.out.size); have e2 := (hb3.cell (p := ⟨ab, ao + k * 5 + 2, none⟩) hag).trans y2; have e3 := (hb3.cell (p := ⟨ab, ao + k * 5 + 3, none⟩) hag).trans y3; have e4 := (hb3.cell (p := ⟨ab, ao + k * 5 + 4, none⟩) hag).trans y4))
            all_goals
              go_wp2_with fail
              go_roundw
              case rel => exact ⟨k + 1, by omega, by go_num, hp3, hb3⟩
              case measure => simp [intOf]; omega
        · obtain rfl : k = n := by omega
          have HS2 : Hid (SP W wr NoF v (runA H0 l)) := by
            have := HS.out
            rw [List.take_of_length_le (by rw [hn.out]; exact Nat.le_refl _)] at this
            exact this
          generalize runA H0 l = H at *
          clear HS
          obtain ⟨er, her⟩ : ∃ er, askO H o f = er := ⟨_, rfl⟩
          have HER := Lib.hid her
          go_wp2_with (first | (go_at_call 17; refine HS2.out.clone.mono ?_; rintro e w3 ⟨v2, rfl, hb3, hp3⟩; refine Hid.out ?_))
          have S3 := Lib.hid (HS2.out.beside hb3)
          have P3 := Lib.hid hp3
          have B3 := Lib.hid (HB.out.trans (hb3.mono HB.out.size))
          generalize Nw wr w3 = F at *
          clear hb3 hp3 HS2
          refine Lib.hid ?_
          go_wp2_with (first | (go_at_call 12; refine (S3.out.set o f x er HER _ rfl).mono ?_; rintro e w4 ⟨rfl, hs4, hp4⟩; refine Hid.out ?_))
          have T4 : Hid (TwoRel W F v v2 (setO H o f x) H w4) := ⟨hp4, P3.out.sv hs4 (fun i hi h => h.2 hi), B3.out.trans (my_below hs4 B3.out.size)⟩
          have hle : lenO H ≤ 131072 := by have := S3.out.lenle; exact this
          have HOK := Lib.hid S3.out.ok
          obtain ⟨mm, hmm⟩ : ∃ mm, lenO H = mm := ⟨_, rfl⟩
          rw [hmm] at hle
          have HMM := Lib.hid hmm
          clear hs4 hp4 S3 P3 B3 hmm
          refine Lib.hid ?_
          go_wp2_with fail
          go_loopw [15] (fun i wr => GoRel W F v v2 (setO H o f x) H mm i wr) (fun i _ => mm + 1 - (intOf i).toNat)
          case atStart => exact ⟨1, Nat.le_refl _, by omega, rfl, T4⟩
          case round =>
            obtain ⟨i, hi1, hi2, rfl, HT⟩ := hrel
            have HSr := Lib.hid HT.out.sp
            have HPr := Lib.hid HT.out.pm
            by_cases hlt : i ≤ mm
            · have hlt' : (i : Int) ≤ (mm : Int) := by omega
              go_wp2_with (go_at_call 14; refine (len_any F v2 H _ HPr.out).mono ?_; rintro e w5 ⟨rfl, rfl⟩; rw [HMM.out])
              go_loopw [16] (fun j wr => GoRel2 W F v v2 (setO H o f x) H j wr) (fun j _ => 12 - (intOf j).toNat)
              case atStart => exact ⟨0, by omega, rfl, HT⟩
              case round =>
                obtain ⟨j, hj, rfl, HT2⟩ := hrel
                by_cases hj2 : j < 12
                · have hj2' : (j : Int) < 12 := by omega
                  obtain ⟨fa, hfa⟩ : ∃ fa, askO H i j = fa := ⟨_, rfl⟩
                  obtain ⟨va, hva⟩ : ∃ va, getO H i j = va := ⟨_, rfl⟩
                  have HFA := Lib.hid hfa
                  have HVA := Lib.hid hva
                  have HFB : Hid (askO (setO H o f x) i j = fa) := by show _ = _; rw [set_ask]; exact hfa
                  have HPj := Lib.hid HT2.out.pm
                  go_wp2_with (go_at_call 11; refine (get_any F v2 H i j va fa _ HPj.out HFA HVA).mono ?_; rintro e w6 ⟨rfl, hb6⟩; refine Hid.out ?_)
                  have HT6 := Lib.hid (HT2.out.read hb6)
                  have HSj := Lib.hid HT6.out.sp
                  clear hb6
                  refine Lib.hid ?_
                  obtain ⟨vb, hvb⟩ : ∃ vb, getO (setO H o f x) i j = vb := ⟨_, rfl⟩
                  have HVB := Lib.hid hvb
                  have hcase : (er = 0 ∧ (i : Int) = o ∧ (j : Int) = f ∧ vb = x) ∨ (er ≠ 0 ∧ va = vb) ∨ (er = 0 ∧ (i : Int) ≠ o ∧ va = vb) ∨ (er = 0 ∧ (i : Int) = o ∧ (j : Int) ≠ f ∧ va = vb) := by
                    by_cases hch : er = 0 ∧ (i : Int) = o ∧ (j : Int) = f
                    · obtain ⟨h1, h2, h3⟩ := hch
                      refine .inl ⟨h1, h2, h3, ?_⟩
                      rw [← hvb, h2, h3]
                      exact set_same HOK.out (by rw [HER.out]; exact h1)
                    · have h5 : va = vb := by
                        rw [← hvb, ← hva]
                        exact (set_other (by rw [HER.out]; omega)).symm
                      omega
                  have HCASE := Lib.hid hcase
                  clear hva hfa hvb hcase
                  go_wp2_with (go_at_call 11; refine (HSj.out.get i j vb fa HFB HVB).mono ?_; rintro e w7 ⟨rfl, hb7⟩; refine Hid.out ?_)
                  have HT7 := Lib.hid (HT6.out.read hb7)
                  clear hb7
                  obtain ⟨Vi, hVi⟩ : ∃ V, V = Value.int .i64 (i : Int) := ⟨_, rfl⟩
                  obtain ⟨Vj, hVj⟩ : ∃ V, V = Value.int .i64 (j : Int) := ⟨_, rfl⟩
                  obtain ⟨Vo, hVo⟩ : ∃ V, V = Value.int .i64 o := ⟨_, rfl⟩
                  obtain ⟨Vf, hVf⟩ : ∃ V, V = Value.int .i64 f := ⟨_, rfl⟩
                  obtain ⟨Vx, hVx⟩ : ∃ V, V = Value.int .i64 x := ⟨_, rfl⟩
                  obtain ⟨Va, hVa⟩ : ∃ V, V = Value.int .i64 va := ⟨_, rfl⟩
                  obtain ⟨Vb, hVb⟩ : ∃ V, V = Value.int .i64 vb := ⟨_, rfl⟩
                  obtain ⟨Ve, hVe⟩ : ∃ V, V = Value.int .i64 (er : Int) := ⟨_, rfl⟩
                  obtain ⟨Vc, hVc⟩ : ∃ V, V = Value.int .i64 (fa : Int) := ⟨_, rfl⟩
                  rw [← hVi, ← hVj, ← hVo, ← hVf, ← hVx, ← hVa, ← hVb, ← hVe, ← hVc]
                  have HVi := Lib.hid hVi
                  have HVj := Lib.hid hVj
                  have HVo := Lib.hid hVo
                  have HVf := Lib.hid hVf
                  have HVx := Lib.hid hVx
                  have HVa := Lib.hid hVa
                  have HVb := Lib.hid hVb
                  have HVe := Lib.hid hVe
                  have HVc := Lib.hid hVc
                  clear hVi hVj hVo hVf hVx hVa hVb hVe hVc
                  have ra := add_run3 (A := Vj) j hj2 HVj.out
                  have g1 := eqg (A := Ve) (B := (.int .i64 0)) er 0 HVe.out rfl
                  have g2 := eqg (A := Vi) (B := Vo) i o HVi.out HVo.out
                  have g3 := eqg (A := Vj) (B := Vf) j f HVj.out HVf.out
                  have g4 := eqg (A := Vb) (B := Vx) vb x HVb.out HVx.out
                  have g5 := eqg (A := Va) (B := Vb) va vb HVa.out HVb.out
                  have g6 := eqg (A := Vc) (B := Vc) fa fa HVc.out HVc.out
                  refine Lib.hid ?_
                  rcases HCASE.out with ⟨h1, h2, h3, h4⟩ | ⟨h1, h5⟩ | ⟨h1, h2, h5⟩ | ⟨h1, h2, h3, h5⟩
                  · have r1 := fun w => eq_run31 (A := Ve) (B := (.int .i64 0)) er 0 true HVe.out rfl (by simp; omega) w
                    have r1n := fun w => ne_run31 (A := Ve) (B := (.int .i64 0)) er 0 true HVe.out rfl (by simp; omega) w
                    have r2 := fun w => eq_run3 (A := Vi) (B := Vo) i o true HVi.out HVo.out (by simp; omega) w
                    have r2n := fun w => ne_run3 (A := Vi) (B := Vo) i o true HVi.out HVo.out (by simp; omega) w
                    have r3 := fun w => eq_run3 (A := Vj) (B := Vf) j f true HVj.out HVf.out (by simp; omega) w
                    have r3n := fun w => ne_run3 (A := Vj) (B := Vf) j f true HVj.out HVf.out (by simp; omega) w
                    have r4 := fun w => eq_run3 (A := Vb) (B := Vx) vb x true HVb.out HVx.out (by rw [h4]; simp) w
                    have r4n := fun w => ne_run3 (A := Vb) (B := Vx) vb x true HVb.out HVx.out (by rw [h4]; simp) w
                    have r6 := fun w => ne_run31 (A := Vc) (B := Vc) fa fa true HVc.out HVc.out (by simp) w
                    simp only [Bool.not_true, Bool.not_false] at r1n r2n r3n r4n r6
                    clear h1 h2 h3 h4
                    go_wp2_with fail
                    have k1 := HVi.out
                    have k2 := HVj.out
                    have k3 := HVo.out
                    have k4 := HVf.out
                    have k5 := HVx.out
                    have k6 := HVa.out
                    have k7 := HVb.out
                    have k8 := HVe.out
                    have k9 := HVc.out
                    clear HVi HVj HVo HVf HVx HVa HVb HVe HVc
                    subst k1 k2 k3 k4 k5 k6 k7 k8 k9
                    clear r1 r1n r6 g1 g2 g3 g4 g5 g6 ra
                    go_roundw
                    case rel => exact ⟨j + 1, by omega, by go_num, HT7⟩
                    case measure => simp [intOf]; omega
                  · have r1 := fun w => eq_run31 (A := Ve) (B := (.int .i64 0)) er 0 false HVe.out rfl (by simp; omega) w
                    have r1n := fun w => ne_run31 (A := Ve) (B := (.int .i64 0)) er 0 false HVe.out rfl (by simp; omega) w
                    have r5 := fun w => eq_run3 (A := Va) (B := Vb) va vb true HVa.out HVb.out (by rw [h5]; simp) w
                    have r5n := fun w => ne_run3 (A := Va) (B := Vb) va vb true HVa.out HVb.out (by rw [h5]; simp) w
                    have r6 := fun w => ne_run31 (A := Vc) (B := Vc) fa fa true HVc.out HVc.out (by simp) w
                    simp only [Bool.not_true, Bool.not_false] at r1n r5n r6
                    clear h1 h5
                    go_wp2_with fail
                    have k1 := HVi.out
                    have k2 := HVj.out
                    have k3 := HVo.out
                    have k4 := HVf.out
                    have k5 := HVx.out
                    have k6 := HVa.out
                    have k7 := HVb.out
                    have k8 := HVe.out
                    have k9 := HVc.out
                    clear HVi HVj HVo HVf HVx HVa HVb HVe HVc
                    subst k1 k2 k3 k4 k5 k6 k7 k8 k9
                    clear r1 r1n r6 g1 g2 g3 g4 g5 g6 ra
                    go_roundw
                    case rel => exact ⟨j + 1, by omega, by go_num, HT7⟩
                    case measure => simp [intOf]; omega
                  · have r1 := fun w => eq_run31 (A := Ve) (B := (.int .i64 0)) er 0 true HVe.out rfl (by simp; omega) w
                    have r1n := fun w => ne_run31 (A := Ve) (B := (.int .i64 0)) er 0 true HVe.out rfl (by simp; omega) w
                    have r2 := fun w => eq_run3 (A := Vi) (B := Vo) i o false HVi.out HVo.out (by simp; omega) w
                    have r2n := fun w => ne_run3 (A := Vi) (B := Vo) i o false HVi.out HVo.out (by simp; omega) w
                    have r5 := fun w => eq_run3 (A := Va) (B := Vb) va vb true HVa.out HVb.out (by rw [h5]; simp) w
                    have r5n := fun w => ne_run3 (A := Va) (B := Vb) va vb true HVa.out HVb.out (by rw [h5]; simp) w
                    have r6 := fun w => ne_run31 (A := Vc) (B := Vc) fa fa true HVc.out HVc.out (by simp) w
                    simp only [Bool.not_true, Bool.not_false] at r1n r2n r5n r6
                    clear h1 h2 h5
                    go_wp2_with fail
                    have k1 := HVi.out
                    have k2 := HVj.out
                    have k3 := HVo.out
                    have k4 := HVf.out
                    have k5 := HVx.out
                    have k6 := HVa.out
                    have k7 := HVb.out
                    have k8 := HVe.out
                    have k9 := HVc.out
                    clear HVi HVj HVo HVf HVx HVa HVb HVe HVc
                    subst k1 k2 k3 k4 k5 k6 k7 k8 k9
                    clear r1 r1n r6 g1 g2 g3 g4 g5 g6 ra
                    go_roundw
                    case rel => exact ⟨j + 1, by omega, by go_num, HT7⟩
                    case measure => simp [intOf]; omega
                  · have r1 := fun w => eq_run31 (A := Ve) (B := (.int .i64 0)) er 0 true HVe.out rfl (by simp; omega) w
                    have r1n := fun w => ne_run31 (A := Ve) (B := (.int .i64 0)) er 0 true HVe.out rfl (by simp; omega) w
                    have r2 := fun w => eq_run3 (A := Vi) (B := Vo) i o true HVi.out HVo.out (by simp; omega) w
                    have r2n := fun w => ne_run3 (A := Vi) (B := Vo) i o true HVi.out HVo.out (by simp; omega) w
                    have r3 := fun w => eq_run3 (A := Vj) (B := Vf) j f false HVj.out HVf.out (by simp; omega) w
                    have r3n := fun w => ne_run3 (A := Vj) (B := Vf) j f false HVj.out HVf.out (by simp; omega) w
                    have r5 := fun w => eq_run3 (A := Va) (B := Vb) va vb true HVa.out HVb.out (by rw [h5]; simp) w
                    have r5n := fun w => ne_run3 (A := Va) (B := Vb) va vb true HVa.out HVb.out (by rw [h5]; simp) w
                    have r6 := fun w => ne_run31 (A := Vc) (B := Vc) fa fa true HVc.out HVc.out (by simp) w
                    simp only [Bool.not_true, Bool.not_false] at r1n r2n r3n r5n r6
                    clear h1 h2 h3 h5
                    go_wp2_with fail
                    have k1 := HVi.out
                    have k2 := HVj.out
                    have k3 := HVo.out
                    have k4 := HVf.out
                    have k5 := HVx.out
                    have k6 := HVa.out
                    have k7 := HVb.out
                    have k8 := HVe.out
                    have k9 := HVc.out
                    clear HVi HVj HVo HVf HVx HVa HVb HVe HVc
                    subst k1 k2 k3 k4 k5 k6 k7 k8 k9
                    clear r1 r1n r6 g1 g2 g3 g4 g5 g6 ra
                    go_roundw
                    case rel => exact ⟨j + 1, by omega, by go_num, HT7⟩
                    case measure => simp [intOf]; omega
                · obtain rfl : j = 12 := by omega
                  go_wp2_with fail
                  go_roundw
                  case rel => exact ⟨i + 1, by omega, by omega, by go_num, HT2⟩
                  case measure => simp [intOf]; omega
            · have hlt' : decide ((i : Int) ≤ (mm : Int)) = false := decide_eq_false (by omega)
              have HLT := Lib.hid hlt
              clear hlt
              go_wp2_with (go_at_call 14; refine (len_any F v2 H _ HPr.out).mono ?_; rintro e w5 ⟨rfl, rfl⟩; rw [HMM.out]; refine Hid.out ?_)
              refine Lib.hid ?_
              go_wp2_with (go_at_call 14; refine Hid.out ?_)
              refine Lib.hid ?_
              refine HSr.out.len.mono ?_
              rintro e w5 ⟨rfl, rfl⟩
              rw [set_len, HMM.out]
              go_wp2_with (go_at_call 14; refine (len_any F v2 H _ HPr.out).mono ?_; rintro e w5 ⟨rfl, rfl⟩; rw [HMM.out])
              go_ret
              exact ⟨rfl, HT.out.bl⟩

end Go.Proofs.YtjgmhkplgenieaaDoor
