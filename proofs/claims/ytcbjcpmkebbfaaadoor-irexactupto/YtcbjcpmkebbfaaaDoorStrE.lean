/-
  CONTRACT: ir's endLine; what the listed tables hold (Gd). Of what was there nothing has turned.
-/
import Derived.Test.YtcbjcpmkebbfaaaDoorStrH
import Derived.Test.YtcbjcpmkebbfaaaDoorIrK
import Derived.Deep.RegionHeld3
namespace Go.Proofs.YtcbjcpmkebbfaaaDoor
open Go.RowKit

theorem gPow : Tryd.prog.globalNamed "internal/strconv.uint64pow10" = some 1 := by kernel_rfl
theorem var_below {w w' : World} {B : Nat} (hb : Below B w w') {name : String} {g : Nat} {cs : Array Value} (hg : Tryd.prog.globalNamed name = some g) (hB : g < B) (h : w.var? Tryd.prog name = some cs) : w'.var? Tryd.prog name = some cs := by
  simp only [World.var?, hg, Option.bind_some] at h ⊢
  rw [hb.block g hB]; exact h
/-- The listed tables lie as they are laid. -/
structure Gd (w : World) : Prop where
  words : WordsIn w
  pow : PowIn w
  size : 2 ≤ w.heap.size
theorem Gd.below {w w' : World} {B : Nat} (h : Gd w) (hb : Below B w w') (hB : 2 ≤ B) : Gd w' :=
  ⟨by obtain ⟨t, fr, h1⟩ := h.words; exact ⟨t, fr, (hb.block 0 (by omega)).trans h1⟩, var_below hb gPow (by omega) h.pow, Nat.le_trans h.size hb.size⟩
theorem Gd.drop {w w' : World} (h : Gd w) (hb : Below w.heap.size w w') : Gd w' := h.below hb h.size

def gotoW (b : Blk) : List ByteArray := [⟨#[103, 111, 116, 111]⟩, num b.t0]
theorem joinB_two (a b : ByteArray) : joinB [a, b] = spS a b := by rw [joinB_cons]; rfl
theorem joinB_four (a b c d : ByteArray) : joinB [a, b, c, d] = spS (spS (spS a b) c) d := by rw [joinB_cons]; rfl
/-- What the end of a block is written as. -/
def endW (b : Blk) : List ByteArray :=
  if b.jump = 1 then [⟨#[103, 111, 116, 111]⟩, num b.t0]
  else if b.jump = 2 then [⟨#[105, 102]⟩, vS b.arg, num b.t0, num b.t1]
  else if b.jump = 3 then if b.arg = -1 then [⟨#[114, 101, 116]⟩] else [⟨#[114, 101, 116]⟩, vS b.arg]
  else [⟨#[106, 117, 109, 112]⟩, num b.jump]
theorem end_eq (b : Blk) : joinB (endW b) = endS b := by
  unfold endW endS
  split
  · rw [joinB_two]; rfl
  · split
    · rw [joinB_four]
      unfold spS vS
      simp only [ba_assoc]; rfl
    · split
      · split
        · rfl
        · rw [joinB_two]
          unfold spS vS
          simp only [ba_assoc]; rfl
      · rw [joinB_two]; rfl
theorem line_lit (w : World) (l : List ByteArray) (n : Nat) (cs : Array Value) (hc : cs.toList = txsV l) (hn : l.length = n) (hl : n ≤ 4096) (hz : ∀ x ∈ l, x.size ≤ 1073741824) :
    Calls Tryd.prog 30 #[.slice (some ⟨w.heap.size, 0, none⟩) n n] (w.alloc (.cells cs 9)) fun e w' => e = .returned (.string (joinB l)) ∧ Below w.heap.size w w' := by
  subst hn
  refine (line_own (OT.lit w w.heap.size l cs hc (Nat.le_refl _) (by omega)) hl hz).mono ?_
  rintro e w' ⟨rfl, b⟩
  exact ⟨rfl, (below_alloc w _).trans (b.mono (by simp))⟩
theorem vS_size (n : Int) (h : I64 n) : (vS n).size ≤ 22 := by
  have := num_size n h
  unfold vS
  rw [ByteArray.size_append]
  have e : (⟨#[118]⟩ : ByteArray).size = 1 := rfl
  omega
theorem ne_of_beq_false {a b : Int} (h : (a == b) = false) : ¬ a = b := fun e => by rw [e, beq_self_eq_true] at h; cases h
theorem keep2 {u w w' : World} {p q : Addr} {v0 v1 : Value} (h : Below u.heap.size u w ∧ w.cell? p = some v0 ∧ w.cell? q = some v1) (b : Below w.heap.size w w') : Below u.heap.size u w' ∧ w'.cell? p = some v0 ∧ w'.cell? q = some v1 :=
  ⟨h.1.trans (b.mono h.1.size), keepB h.2.1 b, keepB h.2.2 b⟩
set_option maxRecDepth 20000 in
set_option maxHeartbeats 2000000 in
theorem endLine_any (E : BE) (w : World) (hM : BM E w) (hG : Gd w) : Calls Tryd.prog 52 #[E.v] w fun e w' => e = .returned (.string (endS E.x)) ∧ Below w.heap.size w w' := by
  have HB0 := Lib.hid (below_alloc w (.cells E.row 53))
  have HM := Lib.hid hM
  have HG := Lib.hid (hG.drop HB0.out)
  have HSZ : Hid ((w.alloc (.cells E.row 53)).heap.size = w.heap.size + 1) := by show _ = _; simp
  have a1 : (w.alloc (.cells E.row 53)).cell? ⟨w.heap.size, 1, none⟩ = some (.int .i64 E.x.jump) := cell_new w E.row 53 1
  have a2 : (w.alloc (.cells E.row 53)).cell? ⟨w.heap.size, 2, none⟩ = some (.int .i64 E.x.arg) := cell_new w E.row 53 2
  have a3 : (w.alloc (.cells E.row 53)).cell? ⟨w.heap.size, 3, none⟩ = some (.int .i64 E.x.t0) := cell_new w E.row 53 3
  have a4 : (w.alloc (.cells E.row 53)).cell? ⟨w.heap.size, 4, none⟩ = some (.int .i64 E.x.t1) := cell_new w E.row 53 4
  have HT0 : Hid (∀ w', Gd w' → Calls Tryd.prog 44 #[.int .i64 E.x.t0] w' fun e w2 => e = .returned (.string (num E.x.t0)) ∧ Below w'.heap.size w' w2) := fun w' g => itoa_any _ w' hM.i0 g.pow
  have HT1 : Hid (∀ w', Gd w' → Calls Tryd.prog 44 #[.int .i64 E.x.t1] w' fun e w2 => e = .returned (.string (num E.x.t1)) ∧ Below w'.heap.size w' w2) := fun w' g => itoa_any _ w' hM.i1 g.pow
  rw [← end_eq]
  obtain ⟨r, hr⟩ : ∃ r, joinB (endW E.x) = r := ⟨_, rfl⟩
  rw [hr]
  have HR := Lib.hid hr
  clear hr
  obtain ⟨s0, hs0⟩ : ∃ s, num E.x.t0 = s := ⟨_, rfl⟩
  obtain ⟨s1, hs1⟩ : ∃ s, num E.x.t1 = s := ⟨_, rfl⟩
  rw [hs0] at HT0
  rw [hs1] at HT1
  have HS0 := Lib.hid hs0
  have HS1 := Lib.hid hs1
  clear hM hG hs0 hs1
  unfold BE.v
  go_enter Tryd.func52, Tryd.ntmps52
  go_wp2_with fail
  generalize w.alloc (.cells E.row 53) = u0 at *
  obtain ⟨vb, hvb⟩ : ∃ b, w.heap.size = b := ⟨_, rfl⟩
  rw [hvb] at a1 a2 a3 a4 ⊢
  go_region_held3 (fun w' => Below u0.heap.size u0 w' ∧ w'.cell? ⟨vb, 3, none⟩ = some (.int .i64 E.x.t0) ∧ w'.cell? ⟨vb, 4, none⟩ = some (.int .i64 E.x.t1)) (first | exact ⟨(Below.refl _ _).drew, a3, a4⟩ | exact HK.out)
    (first
      | (go_at_call 44; have h0 := ‹Below u0.heap.size u0 _ ∧ _›; refine (HT0.out _ (HG.out.drop h0.1)).mono ?_; rintro e w4 ⟨rfl, b4⟩; have HK := Lib.hid (keep2 h0 b4))
      | (go_at_call 44; have h0 := ‹Below u0.heap.size u0 _ ∧ _›; refine (HT1.out _ (HG.out.drop h0.1)).mono ?_; rintro e w4 ⟨rfl, b4⟩; have HK := Lib.hid (keep2 h0 b4)))
  obtain ⟨hb4, -, -⟩ := HK.out
  have a1 := keepB a1 hb4
  have a2 := keepB a2 hb4
  have HB4 := Lib.hid (HB0.out.trans (hb4.mono (by have := HB0.out.size; rw [← hvb] at *; exact this)))
  have HG4 := Lib.hid (HG.out.drop hb4)
  have z0 := num_size _ HM.out.i0
  have z1 := num_size _ HM.out.i1
  have z2 := num_size _ HM.out.ij
  have z3 := vS_size _ HM.out.ia
  rw [HS0.out] at z0
  rw [HS1.out] at z1
  clear hb4 HK HT0 HT1 a3 a4
  clear h0 b4
  cases j1 : (E.x.jump == 1) with
  | true =>
    have he : endW E.x = [⟨#[103, 111, 116, 111]⟩, s0] := by unfold endW; rw [if_pos (eq_of_beq j1), HS0.out]
    have HE := Lib.hid (HR.out.symm.trans (congrArg joinB he))
    have K := Lib.hid (line_lit w4 [⟨#[103, 111, 116, 111]⟩, s0] 2 #[.string ⟨#[103, 111, 116, 111]⟩, .string s0] (by simp [txsV]) rfl (by omega) (by
      intro x hx
      simp only [List.mem_cons, List.not_mem_nil, or_false] at hx
      rcases hx with rfl | rfl
      · exact show (_ : Nat) ≤ _ from by decide
      · omega))
    go_wp2_with (go_at_call 30; refine K.out.mono ?_; rintro e w6 ⟨rfl, b6⟩; have HB6 := Lib.hid (HB4.out.trans (b6.mono HB4.out.size)))
    go_ret
    exact ⟨by rw [HE.out]; rfl, HB6.out⟩
  | false =>
  have n1 := ne_of_beq_false j1
  cases j2 : (E.x.jump == 2) with
  | true =>
    have he : endW E.x = [⟨#[105, 102]⟩, vS E.x.arg, s0, s1] := by unfold endW; rw [if_neg n1, if_pos (eq_of_beq j2), HS0.out, HS1.out]
    have HE := Lib.hid (HR.out.symm.trans (congrArg joinB he))
    have HV := Lib.hid (value_any E.x.arg w4 HM.out.ia HG4.out.pow)
    obtain ⟨vs, hvs⟩ : ∃ s, vS E.x.arg = s := ⟨_, rfl⟩
    rw [hvs] at HV z3 HE
    clear he hvs n1
    go_wp2_with fail
    refine HV.out.mono ?_
    rintro e w5 ⟨rfl, b5⟩
    have HB5 := Lib.hid (HB4.out.trans (b5.mono HB4.out.size))
    clear b5 a1 a2
    have K := Lib.hid (line_lit w5 [⟨#[105, 102]⟩, vs, s0, s1] 4 #[.string ⟨#[105, 102]⟩, .string vs, .string s0, .string s1] (by simp [txsV]) rfl (by omega) (by
      intro x hx
      simp only [List.mem_cons, List.not_mem_nil, or_false] at hx
      rcases hx with rfl | rfl | rfl | rfl
      · exact show (_ : Nat) ≤ _ from by decide
      · omega
      · omega
      · omega))
    go_wp2_with (go_at_call 30; refine K.out.mono ?_; rintro e w6 ⟨rfl, b6⟩; have HB6 := Lib.hid (HB5.out.trans (b6.mono HB5.out.size)))
    go_ret
    exact ⟨by rw [HE.out]; rfl, HB6.out⟩
  | false =>
  have n2 := ne_of_beq_false j2
  cases j3 : (E.x.jump == 3) with
  | true =>
    cases j4 : (E.x.arg == -1) with
    | true =>
      have he : endW E.x = [⟨#[114, 101, 116]⟩] := by unfold endW; rw [if_neg n1, if_neg n2, if_pos (eq_of_beq j3), if_pos (eq_of_beq j4)]
      have HE := Lib.hid (HR.out.symm.trans (congrArg joinB he))
      clear he n1 n2
      go_wp2_with fail
      go_ret
      exact ⟨by rw [HE.out]; rfl, HB4.out⟩
    | false =>
      have he : endW E.x = [⟨#[114, 101, 116]⟩, vS E.x.arg] := by unfold endW; rw [if_neg n1, if_neg n2, if_pos (eq_of_beq j3), if_neg (ne_of_beq_false j4)]
      have HE := Lib.hid (HR.out.symm.trans (congrArg joinB he))
      have HV := Lib.hid (value_any E.x.arg w4 HM.out.ia HG4.out.pow)
      obtain ⟨vs, hvs⟩ : ∃ s, vS E.x.arg = s := ⟨_, rfl⟩
      rw [hvs] at HV z3 HE
      clear he hvs n1 n2
      go_wp2_with fail
      refine HV.out.mono ?_
      rintro e w5 ⟨rfl, b5⟩
      have HB5 := Lib.hid (HB4.out.trans (b5.mono HB4.out.size))
      clear b5 a1 a2
      have K := Lib.hid (line_lit w5 [⟨#[114, 101, 116]⟩, vs] 2 #[.string ⟨#[114, 101, 116]⟩, .string vs] (by simp [txsV]) rfl (by omega) (by
        intro x hx
        simp only [List.mem_cons, List.not_mem_nil, or_false] at hx
        rcases hx with rfl | rfl
        · exact show (_ : Nat) ≤ _ from by decide
        · omega))
      go_wp2_with (go_at_call 30; refine K.out.mono ?_; rintro e w6 ⟨rfl, b6⟩; have HB6 := Lib.hid (HB5.out.trans (b6.mono HB5.out.size)))
      go_ret
      exact ⟨by rw [HE.out]; rfl, HB6.out⟩
  | false =>
    have he : endW E.x = [⟨#[106, 117, 109, 112]⟩, num E.x.jump] := by unfold endW; rw [if_neg n1, if_neg n2, if_neg (ne_of_beq_false j3)]
    have HE := Lib.hid (HR.out.symm.trans (congrArg joinB he))
    have HV := Lib.hid (itoa_any E.x.jump w4 HM.out.ij HG4.out.pow)
    obtain ⟨vs, hvs⟩ : ∃ s, num E.x.jump = s := ⟨_, rfl⟩
    rw [hvs] at HV z2 HE
    clear he hvs n1 n2
    go_wp2_with fail
    refine HV.out.mono ?_
    rintro e w5 ⟨rfl, b5⟩
    have HB5 := Lib.hid (HB4.out.trans (b5.mono HB4.out.size))
    clear b5 a1 a2
    have K := Lib.hid (line_lit w5 [⟨#[106, 117, 109, 112]⟩, vs] 2 #[.string ⟨#[106, 117, 109, 112]⟩, .string vs] (by simp [txsV]) rfl (by omega) (by
      intro x hx
      simp only [List.mem_cons, List.not_mem_nil, or_false] at hx
      rcases hx with rfl | rfl
      · exact show (_ : Nat) ≤ _ from by decide
      · omega))
    go_wp2_with (go_at_call 30; refine K.out.mono ?_; rintro e w6 ⟨rfl, b6⟩; have HB6 := Lib.hid (HB5.out.trans (b6.mono HB5.out.size)))
    go_ret
    exact ⟨by rw [HE.out]; rfl, HB6.out⟩

end Go.Proofs.YtcbjcpmkebbfaaaDoor
