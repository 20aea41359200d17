/-
  CONTRACT: the anchor 'awake' answers true, in a world in which the table of keys lies as the program's text lays it; of what was there nothing has turned.
-/
import Derived.Test.YtpjfooghiclccaaDoorTwo
namespace Go.Proofs.YtpjfooghiclccaaDoor
open Go.RowKit

def ttL : List Str := [⟨⟨#[84]⟩, []⟩, ⟨⟨#[84]⟩, []⟩]
theorem tt_sr (w : World) : SR (w.alloc (.cells #[.string ⟨#[84]⟩, .slice none 0 0, .string ⟨#[84]⟩, .slice none 0 0] 43)) (some ⟨w.heap.size, 0, none⟩) ttL := by
  have k := fun j => cell_new w #[.string ⟨#[84]⟩, .slice none 0 0, .string ⟨#[84]⟩, .slice none 0 0] 43 j
  refine fun _ => ⟨w.heap.size, 0, rfl, by simp, fun i s hs => ?_⟩
  rcases i with _ | _ | i
  · obtain rfl := (Option.some.inj hs).symm
    exact ⟨none, 0, k 0, k 1, by decide, by decide, fun h => absurd h (by decide)⟩
  · obtain rfl := (Option.some.inj hs).symm
    exact ⟨none, 0, k 2, k 3, by decide, by decide, fun h => absurd h (by decide)⟩
  · simp [ttL] at hs

/-- Whether flags have the first and are closed. -/
def closedB (ss : List Str) (t : ByteArray) (fl : List Bool) : Bool :=
  (match tgt ss t with | some j => fl.getD j false | none => true) &&
  (List.range ss.length).all fun i => match ss[i]? with
    | some s => !fl.getD i false || s.fields.all fun f => match tgt ss f.typ with | some j => fl.getD j false | none => true
    | none => true
theorem getD_true {fl : List Bool} {j : Nat} (h : fl.getD j false = true) : fl[j]? = some true := by
  rw [List.getD_eq_getElem?_getD] at h
  cases hj : fl[j]? with
  | none => rw [hj] at h; cases h
  | some b => rw [hj] at h; exact congrArg some h
theorem closed_flags {ss : List Str} {t : ByteArray} {fl : List Bool} (hl : fl.length = ss.length) (h : closedB ss t fl = true) (hr : ∀ i, fl[i]? = some true → Rch ss t i) : Flags ss t fl := by
  unfold closedB at h
  rw [Bool.and_eq_true] at h
  refine ⟨hl, fun i => ⟨hr i, closed_rch (fun j hj => ?_) (fun i s f j h1 h2 h3 h4 => ?_)⟩⟩
  · have := h.1
    rw [hj] at this
    exact getD_true this
  · have := List.all_eq_true.1 h.2 i (List.mem_range.2 (List.getElem?_eq_some_iff.1 h2).1)
    rw [h2] at this
    simp only at this
    rw [List.getD_eq_getElem?_getD, h1] at this
    have := List.all_eq_true.1 (by simpa using this) f h3
    rw [h4] at this
    exact getD_true this
theorem two_flags : Flags twoL ⟨#[42, 85]⟩ [true, true, false] := by
  have h1 : Rch twoL ⟨#[42, 85]⟩ 1 := .base (by decide +kernel)
  have h0 : Rch twoL ⟨#[42, 85]⟩ 0 := .step (s := ⟨⟨#[85]⟩, [⟨⟨#[116]⟩, ⟨#[42, 84]⟩⟩]⟩) (f := ⟨⟨#[116]⟩, ⟨#[42, 84]⟩⟩) h1 rfl (by simp) (by decide +kernel)
  refine closed_flags rfl (by decide +kernel) fun i hi => ?_
  rcases i with _ | _ | _ | i
  · exact h0
  · exact h1
  · simp at hi
  · simp at hi
theorem two_names {fl : List Bool} (h : Flags twoL ⟨#[42, 85]⟩ fl) : namesOf twoL fl twoL.length = [⟨#[84]⟩, ⟨#[85]⟩] := by
  rw [h.uniq two_flags]; decide +kernel

def t0 : List Fld := [⟨⟨#[110]⟩, ⟨#[105, 110, 116]⟩⟩, ⟨⟨#[117]⟩, ⟨#[42, 85]⟩⟩]
theorem check_c1 (g : Nat) (w : World) (hK : Hid (KeysIn w)) (h : Hid (SR w (some ⟨g, 0, none⟩) twoL)) : Calls Tryd.prog 9 #[.slice (some ⟨g, 0, none⟩) 3 3] w fun e w' => e = .returned (.tuple #[.int .i64 0, .int .i64 0]) ∧ Below w.heap.size w w' :=
  check_any _ 3 3 twoL 0 0 w hK.out h.out rfl (by omega) (by omega) (show _ = _ by decide +kernel)
theorem check_c2 (g : Nat) (w : World) (hK : Hid (KeysIn w)) (h : Hid (SR w (some ⟨g, 0, none⟩) ttL)) : Calls Tryd.prog 9 #[.slice (some ⟨g, 0, none⟩) 2 2] w fun e w' => e = .returned (.tuple #[.int .i64 1, .int .i64 6]) ∧ Below w.heap.size w w' :=
  check_any _ 2 2 ttL 1 6 w hK.out h.out rfl (by omega) (by omega) (show _ = _ by decide +kernel)
def ReachC (w : World) (e : Ending) (w' : World) : Prop := ∃ g c, e = .returned (.slice (some ⟨g, 0, none⟩) 2 c) ∧ g < w'.heap.size ∧ w'.cell? ⟨g, 0, none⟩ = some (.string ⟨#[84]⟩) ∧ w'.cell? ⟨g, 1, none⟩ = some (.string ⟨#[85]⟩) ∧ Below w.heap.size w w'
theorem reach_c (g : Nat) (w : World) (hK : Hid (KeysIn w)) (h : Hid (SR w (some ⟨g, 0, none⟩) twoL)) : Calls Tryd.prog 18 #[.slice (some ⟨g, 0, none⟩) 3 3, .string ⟨#[42, 85]⟩] w (ReachC w) := by
  refine (reach_any _ 3 3 twoL _ w hK.out h.out rfl (by omega) (fun s hs => ?_)).mono ?_
  · simp [twoL] at hs
    rcases hs with rfl | rfl | rfl <;> decide
  · rintro e w' ⟨fl, v, hf, rfl, ho, hb⟩
    rw [two_names hf] at ho
    obtain ⟨g', c', rfl, _, hg⟩ := ho.form (by decide)
    exact ⟨g', c', rfl, hg, ho.cellAt 0 (by decide), ho.cellAt 1 (by decide), hb⟩
def LinksC (w : World) (e : Ending) (w' : World) : Prop := ∃ g c, e = .returned (.slice (some ⟨g, 0, none⟩) 1 c) ∧ g < w'.heap.size ∧ w'.cell? ⟨g, 0, none⟩ = some (.int .i64 1) ∧ Below w.heap.size w w'
theorem links_c (FA : Option Addr) (fc : Nat) (w : World) (hK : Hid (KeysIn w)) (h : Hid (FR w FA t0)) : Calls Tryd.prog 20 #[.agg #[.string ⟨#[84]⟩, .slice FA 2 fc]] w (LinksC w) := by
  refine (links_any _ FA fc 2 t0 w hK.out h.out rfl (by omega)).mono ?_
  rintro e w' ⟨v, rfl, ho, hb⟩
  rw [show links t0 2 = [1] by decide +kernel] at ho
  obtain ⟨g', c', rfl, _, hg⟩ := ho.form (by decide)
  exact ⟨g', c', rfl, hg, ho.cellAt 0 (by decide), hb⟩
theorem place_c (FA : Option Addr) (fc : Nat) (w : World) (h : Hid (FR w FA t0)) : Calls Tryd.prog 21 #[.agg #[.string ⟨#[84]⟩, .slice FA 2 fc], .string ⟨#[117]⟩] w fun e w' => e = .returned (.tuple #[.int .i64 1, .bool true]) ∧ Below w.heap.size w w' :=
  place_any _ FA fc 2 t0 _ (some 1) w h.out rfl (by omega) (show _ = _ by decide +kernel)
theorem elem_c1 (w : World) (hK : Hid (KeysIn w)) : Calls Tryd.prog 11 #[.string ⟨#[42, 84]⟩] w fun e w' => e = .returned (.tuple #[.string ⟨#[84]⟩, .bool true]) ∧ w = w' :=
  elem_any _ (some ⟨#[84]⟩) w hK (show _ = _ by decide +kernel)
theorem elem_c2 (w : World) (hK : Hid (KeysIn w)) : Calls Tryd.prog 11 #[.string ⟨#[105, 110, 116]⟩] w fun e w' => e = .returned (.tuple #[.string ⟨#[]⟩, .bool false]) ∧ w = w' :=
  elem_any _ none w hK (show _ = _ by decide +kernel)
theorem is_c1 (g : Nat) (w : World) (h : Hid (SR w (some ⟨g, 0, none⟩) twoL)) : Calls Tryd.prog 15 #[.slice (some ⟨g, 0, none⟩) 3 3, .string ⟨#[98, 111, 111, 108]⟩] w fun e w' => e = .returned (.bool true) ∧ Below w.heap.size w w' :=
  is_any _ 3 3 twoL _ true w h rfl (by omega) (show _ = _ by decide +kernel)
theorem is_c2 (g : Nat) (w : World) (h : Hid (SR w (some ⟨g, 0, none⟩) twoL)) : Calls Tryd.prog 15 #[.slice (some ⟨g, 0, none⟩) 3 3, .string ⟨#[42, 87]⟩] w fun e w' => e = .returned (.bool false) ∧ Below w.heap.size w w' :=
  is_any _ 3 3 twoL _ false w h rfl (by omega) (show _ = _ by decide +kernel)
theorem same_c (g g' : Nat) (w : World) (h : Hid (SR w (some ⟨g, 0, none⟩) twoL)) (h' : Hid (SR w (some ⟨g', 0, none⟩) twoL)) : Calls Tryd.prog 22 #[.slice (some ⟨g, 0, none⟩) 3 3, .slice (some ⟨g', 0, none⟩) 3 3] w fun e w' => e = .returned (.bool true) ∧ Below w.heap.size w w' :=
  same_any _ _ 3 3 3 3 twoL twoL true w h.out h'.out rfl rfl (by omega) (show _ ↔ _ from ⟨fun _ => rfl, fun _ => rfl⟩)

theorem pointer_c (w : World) : Calls Tryd.prog 17 #[.string ⟨#[84]⟩] w fun e w' => e = .returned (.string ⟨#[42, 84]⟩) ∧ w = w' := by
  refine (pointer_any ⟨#[84]⟩ w (by decide)).mono ?_
  rintro e w' ⟨rfl, rfl⟩
  exact ⟨ret_str (by decide +kernel), rfl⟩

set_option maxRecDepth 20000 in
set_option maxHeartbeats 800000 in
theorem awake_true (w : World) (G : KeysIn w) : Calls Tryd.prog 7 #[] w fun e w' => e = .returned (.bool true) ∧ Below w.heap.size w w' := by
  go_enter Tryd.func7, Tryd.ntmps7
  go_wp2_with fail
  refine (two_any _).mono ?_
  rintro e w1 ⟨g, rfl, hg, hs, b1⟩
  have G1 := Lib.hid (G.below b1 (Nat.le_refl _))
  have S1 := Lib.hid hs
  clear G hs
  go_wp2_with fail
  refine (check_c1 g _ G1 S1).mono ?_
  rintro e w2 ⟨rfl, b2⟩
  have d2 := below_on b1 b2
  have G2 := Lib.hid (G1.out.below b2 (Nat.le_refl _))
  have S2 := Lib.hid (S1.out.below b2 (Nat.le_refl _))
  have hg2 := Nat.lt_of_lt_of_le hg b2.size
  clear b1 b2 G1 S1 hg
  have ba := (Below.refl w2.heap.size w2).alloc (Nat.le_refl _) (.cells #[.string ⟨#[84]⟩, .slice none 0 0, .string ⟨#[84]⟩, .slice none 0 0] 43)
  have G2a := Lib.hid (G2.out.below ba (Nat.le_refl _))
  have S2a := Lib.hid (S2.out.below ba (Nat.le_refl _))
  have hTT := Lib.hid (tt_sr w2)
  have d2a := below_on d2 ba
  clear G2 S2 ba d2
  go_wp2_with fail
  refine (check_c2 _ _ G2a hTT).mono ?_
  rintro e w3 ⟨rfl, b3⟩
  have d3 := below_on d2a b3
  have G3 := Lib.hid (G2a.out.below b3 (Nat.le_refl _))
  have S3 := Lib.hid (S2a.out.below b3 (Nat.le_refl _))
  clear d2a G2a S2a hTT b3 hg2
  go_wp2_with fail
  refine (reach_c g _ G3 S3).mono ?_
  rintro e w4 ⟨gr, rc, rfl, hgr, r0, r1, b4⟩
  have d4 := below_on d3 b4
  have G4 := Lib.hid (G3.out.below b4 (Nat.le_refl _))
  have S4 := Lib.hid (S3.out.below b4 (Nat.le_refl _))
  clear d3 G3 S3 b4
  obtain ⟨g', o', hgo, hgl, hcs⟩ := S4.out (by decide)
  obtain ⟨rfl, rfl⟩ : g = g' ∧ 0 = o' := by injection hgo with hgo; injection hgo with h1 h2; exact ⟨h1, h2⟩
  obtain ⟨FA, fc, c0, c1, -, -, hF⟩ := hcs 0 ⟨⟨#[84]⟩, t0⟩ rfl
  have c0' : w4.cell? ⟨g, 0, none⟩ = some (.string ⟨#[84]⟩) := c0
  have c1' : w4.cell? ⟨g, 1, none⟩ = some (.slice FA 2 fc) := c1
  have hF4 := Lib.hid hF
  clear hgo hcs c0 c1 hF
  go_wp2_with fail
  refine (links_c FA fc _ G4 hF4).mono ?_
  rintro e w5 ⟨gl, lc, rfl, hgl5, l0, b5⟩
  have d5 := below_on d4 b5
  have G5 := Lib.hid (G4.out.below b5 (Nat.le_refl _))
  have S5 := Lib.hid (S4.out.below b5 (Nat.le_refl _))
  have F5 := Lib.hid (FR.below hF4.out b5 (Nat.le_refl _))
  have r05 := (b5.cell (p := ⟨gr, 0, none⟩) hgr).trans r0
  have r15 := (b5.cell (p := ⟨gr, 1, none⟩) hgr).trans r1
  have e0 := (b5.cell (p := ⟨g, 0, none⟩) hgl).trans c0'
  have e1 := (b5.cell (p := ⟨g, 1, none⟩) hgl).trans c1'
  have hgr5 := Nat.lt_of_lt_of_le hgr b5.size
  clear d4 G4 S4 hF4 r0 r1 c0' c1' hgr b5
  go_wp2_with fail
  refine (place_c FA fc _ F5).mono ?_
  rintro e w6 ⟨rfl, b6⟩
  have d6 := below_on d5 b6
  have G6 := Lib.hid (G5.out.below b6 (Nat.le_refl _))
  have S6 := Lib.hid (S5.out.below b6 (Nat.le_refl _))
  have r06 := (b6.cell (p := ⟨gr, 0, none⟩) hgr5).trans r05
  have r16 := (b6.cell (p := ⟨gr, 1, none⟩) hgr5).trans r15
  have l06 := (b6.cell (p := ⟨gl, 0, none⟩) hgl5).trans l0
  clear d5 G5 S5 F5 r05 r15 l0 e0 e1 hgr5 hgl5 b6
  go_wp2_with fail
  refine (elem_c1 _ G6).mono ?_
  rintro e w' ⟨rfl, rfl⟩
  go_wp2_with fail
  refine (elem_c2 _ G6).mono ?_
  rintro e w' ⟨rfl, rfl⟩
  go_wp2_with fail
  refine (pointer_c _).mono ?_
  rintro e w' ⟨rfl, rfl⟩
  go_wp2_with fail
  refine (is_c1 g _ S6).mono ?_
  rintro e w7 ⟨rfl, b7⟩
  have d7 := below_on d6 b7
  have S7 := Lib.hid (S6.out.below b7 (Nat.le_refl _))
  clear d6 G6 S6 r06 r16 l06 b7
  go_wp2_with fail
  refine (is_c2 g _ S7).mono ?_
  rintro e w8 ⟨rfl, b8⟩
  have d8 := below_on d7 b8
  have S8 := Lib.hid (S7.out.below b8 (Nat.le_refl _))
  clear d7 S7 b8
  go_wp2_with fail
  refine (two_any _).mono ?_
  rintro e w9 ⟨g9, rfl, hg9, hs9, b9⟩
  have d9 := below_on d8 b9
  have S9 := Lib.hid (S8.out.below b9 (Nat.le_refl _))
  have T9 := Lib.hid hs9
  clear d8 S8 b9 hs9 hg9
  go_wp2_with fail
  refine (same_c g g9 _ S9 T9).mono ?_
  rintro e w10 ⟨rfl, b10⟩
  have d10 := below_on d9 b10
  clear d9 S9 T9 b10
  go_wp2_with fail
  go_ret
  exact ⟨rfl, d10⟩

end Go.Proofs.YtpjfooghiclccaaDoor
