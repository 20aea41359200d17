/-
  CONTRACT: the anchor 'awake' answers true, in a world in which the listed variables lie as the program's text lays them; of what was there nothing has turned.
-/
import Derived.Test.YteikheaanefgbaaDoorJoin
import Derived.Test.YteikheaanefgbaaDoorLine
namespace Go.Proofs.YteikheaanefgbaaDoor
open Go.RowKit

def toks1 : List Tok := [⟨1, [120], 0⟩, ⟨4, [58, 61], 1⟩, ⟨1, [97], 3⟩, ⟨4, [60, 60], 4⟩, ⟨3, [49], 6⟩]
theorem scan_c1 (w : World) (G : Good w) : Calls Tryd.prog 8 #[.string ⟨#[120, 58, 61, 97, 60, 60, 49, 47, 47, 98]⟩] w fun e w' => ∃ g cap, e = .returned (.tuple #[.slice (some ⟨g, 0, none⟩) 5 cap, .int .i64 0, .int .i64 0]) ∧ 5 ≤ cap ∧ TR w' (some ⟨g, 0, none⟩) toks1 ∧ Below w.heap.size w w' := by
  refine (scan_any _ (.ok toks1) w G (by decide) (show _ = _ by kernel_rfl)).mono ?_
  rintro e w' ⟨hb, v, rfl, ho⟩
  obtain ⟨A, c, rfl, hc, ht⟩ := tr_own ho
  obtain ⟨g, rfl, _⟩ := ht (by decide)
  exact ⟨g, c, rfl, hc, ht, hb⟩
theorem scan_c2 (w : World) (G : Good w) : Calls Tryd.prog 8 #[.string ⟨#[97, 32, 48, 49]⟩] w fun e w' => e = .returned (.tuple #[.slice none 0 0, .int .i64 2, .int .i64 1]) ∧ Below w.heap.size w w' := by
  refine (scan_any _ (.bad 2 1) w G (by decide) (show _ = _ by kernel_rfl)).mono ?_
  rintro e w' ⟨hb, rfl⟩
  exact ⟨rfl, hb⟩
theorem scan_c3 (w : World) (G : Good w) : Calls Tryd.prog 8 #[.string ⟨#[57, 50, 50, 51, 51, 55, 50, 48, 51, 54, 56, 53, 52, 55, 55, 53, 56, 48, 56]⟩] w fun e w' => e = .returned (.tuple #[.slice none 0 0, .int .i64 0, .int .i64 2]) ∧ Below w.heap.size w w' := by
  refine (scan_any _ (.bad 0 2) w G (by decide) (show _ = _ by kernel_rfl)).mono ?_
  rintro e w' ⟨hb, rfl⟩
  exact ⟨rfl, hb⟩
theorem line_c (w : World) : Calls Tryd.prog 14 #[.string ⟨#[97, 10, 98, 99]⟩, .int .i64 3] w fun e w' => e = .returned (.tuple #[.int .i64 2, .int .i64 2]) ∧ w = w' := by
  refine (line_any ⟨#[97, 10, 98, 99]⟩ 3 w (by decide) (by omega)).mono ?_
  rintro e w' ⟨rfl, rfl⟩
  exact ⟨(ret_pair (by decide)).symm, rfl⟩
theorem word_c1 (w : World) (G : Good w) : Calls Tryd.prog 10 #[.string ⟨#[120, 49]⟩] w fun e w' => e = .returned (.bool true) ∧ w = w' := by
  refine (isWord_any _ w (by decide) G.keys).mono ?_
  rintro e w' ⟨rfl, rfl⟩
  exact ⟨ret_bool (by decide), rfl⟩
theorem word_c2 (w : World) (G : Good w) : Calls Tryd.prog 10 #[.string ⟨#[102, 117, 110, 99]⟩] w fun e w' => e = .returned (.bool false) ∧ w = w' := by
  refine (isWord_any _ w (by decide) G.keys).mono ?_
  rintro e w' ⟨rfl, rfl⟩
  exact ⟨ret_bool (by decide), rfl⟩
theorem key_c (w : World) (G : Good w) : Calls Tryd.prog 12 #[.string ⟨#[110, 105, 108]⟩] w fun e w' => e = .returned (.bool true) ∧ w = w' := by
  refine (isKey_any _ w G.keys).mono ?_
  rintro e w' ⟨rfl, rfl⟩
  exact ⟨ret_bool (by decide), rfl⟩
theorem join_c (g c : Nat) (w : World) (h : Hid (TR w (some ⟨g, 0, none⟩) toks1)) : Calls Tryd.prog 16 #[.slice (some ⟨g, 0, none⟩) 2 c] w fun e w' => e = .returned (.string ⟨#[120, 32, 58, 61]⟩) ∧ Below w.heap.size w w' := by
  have h2 : TR w (some ⟨g, 0, none⟩) (toks1.take 2) := by
    intro _
    obtain ⟨g', hg, hl, hc⟩ := h.out (by decide)
    refine ⟨g', hg, hl, fun i t ht => hc i t ?_⟩
    have : i < 2 := (List.getElem?_eq_some_iff.1 ht).1
    rw [List.getElem?_take, if_pos this] at ht
    exact ht
  exact join_any (some ⟨g, 0, none⟩) c (toks1.take 2) ⟨#[120, 32, 58, 61]⟩ w h2 (by decide) (show _ = _ by decide) (by decide)

set_option maxRecDepth 20000 in
set_option maxHeartbeats 800000 in
theorem awake_true (w : World) (G : Good w) : Calls Tryd.prog 7 #[] w fun e w' => e = .returned (.bool true) ∧ Below w.heap.size w w' := by
  go_enter Tryd.func7, Tryd.ntmps7
  go_wp2_with fail
  refine (scan_c1 _ G).mono ?_
  rintro e w1 ⟨g, cap, rfl, hcap, ht, b1⟩
  have G1 := G.below b1
  have HT1 := Lib.hid ht
  clear G ht
  go_wp2_with fail
  refine (scan_c2 _ G1).mono ?_
  rintro e w2 ⟨rfl, b2⟩
  have G2 := G1.below b2
  have HT2 := Lib.hid (HT1.out.below b2)
  have d2 := b1.trans (b2.mono b1.size)
  clear G1 HT1 b1 b2
  go_wp2_with fail
  refine (scan_c3 _ G2).mono ?_
  rintro e w3 ⟨rfl, b3⟩
  have G3 := G2.below b3
  have HT3 := Lib.hid (HT2.out.below b3)
  have d3 := d2.trans (b3.mono d2.size)
  clear G2 HT2 b3 d2
  obtain ⟨g', hg, -, hc⟩ := HT3.out (by decide)
  obtain rfl : g = g' := by injection hg with hg; injection hg
  have c4 : w3.cell? ⟨g, 4, none⟩ = some (.string ⟨#[58, 61]⟩) := (hc 1 ⟨4, [58, 61], 1⟩ rfl).2.1
  have c9 : w3.cell? ⟨g, 9, none⟩ = some (.int .i64 4) := (hc 3 ⟨4, [60, 60], 4⟩ rfl).1
  have c12 : w3.cell? ⟨g, 12, none⟩ = some (.int .i64 3) := (hc 4 ⟨3, [49], 6⟩ rfl).1
  have c14 : w3.cell? ⟨g, 14, none⟩ = some (.int .i64 6) := (hc 4 ⟨3, [49], 6⟩ rfl).2.2
  clear hg hc
  go_wp2_with fail
  refine (line_c _).mono ?_
  rintro e w' ⟨rfl, rfl⟩
  go_wp2_with fail
  refine (word_c1 _ G3).mono ?_
  rintro e w' ⟨rfl, rfl⟩
  go_wp2_with fail
  refine (word_c2 _ G3).mono ?_
  rintro e w' ⟨rfl, rfl⟩
  go_wp2_with fail
  refine (key_c _ G3).mono ?_
  rintro e w' ⟨rfl, rfl⟩
  go_wp2_with fail
  refine (join_c g cap _ HT3).mono ?_
  rintro e w4 ⟨rfl, b4⟩
  go_wp2_with fail
  go_ret
  exact ⟨rfl, d3.trans (b4.mono d3.size)⟩

end Go.Proofs.YteikheaanefgbaaDoor
