/-
  LexExact: THE LAW's CONTRACT: it answers true for every text and every number that an int holds, in a world in which the listed variables lie as the program's text lays them; of what was there nothing has turned.
-/
import Derived.Test.YteikheaanefgbaaDoorPlacesWalk
import Derived.Test.YteikheaanefgbaaDoorRefScan
namespace Go.Proofs.YteikheaanefgbaaDoor
open Go.RowKit

theorem scanG_ok (s : ByteArray) (ts : List Tok) (w : World) (G : Good w) (hs : s.size ≤ 281474976710656) (h : Hid (scanR s.data.toList = .ok ts)) :
    Calls Tryd.prog 8 #[.string s] w fun e w' => ∃ A c, e = .returned (.tuple #[.slice A ts.length c, .int .i64 0, .int .i64 0]) ∧ ts.length ≤ c ∧ TR w' A ts ∧ Below w.heap.size w w' := by
  refine (scan_any s (.ok ts) w G hs h).mono ?_
  rintro e w' ⟨hb, v, rfl, ho⟩
  obtain ⟨A, c, rfl, hc, ht⟩ := tr_own ho
  exact ⟨A, c, rfl, hc, ht, hb⟩
theorem scanG_err (s : ByteArray) (p er : Nat) (w : World) (G : Good w) (hs : s.size ≤ 281474976710656) (h : Hid (scanR s.data.toList = .bad p er)) :
    Calls Tryd.prog 8 #[.string s] w fun e w' => e = .returned (.tuple #[.slice none 0 0, .int .i64 p, .int .i64 er]) ∧ Below w.heap.size w w' := by
  refine (scan_any s (.bad p er) w G hs h).mono ?_
  rintro e w' ⟨hb, rfl⟩
  exact ⟨rfl, hb⟩
theorem scanR_ok (s : ByteArray) (ts : List Tok) (w : World) (hs : s.size ≤ 5000) (h : Hid (scanR s.data.toList = .ok ts)) :
    Calls Tryd.prog 9 #[.string s] w fun e w' => ∃ A c, e = .returned (.tuple #[.slice A ts.length c, .int .i64 0, .int .i64 0]) ∧ ts.length ≤ c ∧ TR w' A ts ∧ Below w.heap.size w w' := by
  refine (refScan_any s (.ok ts) w hs h).mono ?_
  rintro e w' ⟨hb, v, rfl, ho⟩
  obtain ⟨A, c, rfl, hc, ht⟩ := tr_own ho
  exact ⟨A, c, rfl, hc, ht, hb⟩
theorem scanR_err (s : ByteArray) (p er : Nat) (w : World) (hs : s.size ≤ 5000) (h : Hid (scanR s.data.toList = .bad p er)) :
    Calls Tryd.prog 9 #[.string s] w fun e w' => e = .returned (.tuple #[.slice none 0 0, .int .i64 p, .int .i64 er]) ∧ Below w.heap.size w w' := by
  refine (refScan_any s (.bad p er) w hs h).mono ?_
  rintro e w' ⟨hb, rfl⟩
  exact ⟨rfl, hb⟩
theorem isWord_to (s : ByteArray) (b : Bool) (w : World) (hs : s.size ≤ 281474976710656) (G : Good w) (h : Hid (wordB s.data.toList = b)) : Calls Tryd.prog 10 #[.string s] w fun e w' => e = .returned (.bool b) ∧ w = w' := by
  rw [← h.out]; exact isWord_any s w hs G.keys
theorem refWord_to (s : ByteArray) (b : Bool) (w : World) (h : Hid (wordB s.data.toList = b)) : Calls Tryd.prog 11 #[.string s] w fun e w' => e = .returned (.bool b) ∧ Below w.heap.size w w' := by
  rw [← h.out]; exact refWord_any s w
theorem lineE_to (s : ByteArray) (p a b : Int) (w : World) (hs : s.size ≤ 281474976710656) (hp : p ≤ 9223372036854775807) (h : Hid (lineV s.data.toList p = (a, b))) :
    Calls Tryd.prog 14 #[.string s, .int .i64 p] w fun e w' => e = .returned (.tuple #[.int .i64 a, .int .i64 b]) ∧ w = w' := by
  refine (line_any s p w hs hp).mono ?_
  rintro e w' ⟨rfl, rfl⟩
  exact ⟨(ret_pair h.out).symm, rfl⟩
theorem refLine_to (s : ByteArray) (p a b : Int) (w : World) (hs : s.size ≤ 281474976710656) (hp : p ≤ 9223372036854775807) (h : Hid (lineV s.data.toList p = (a, b))) :
    Calls Tryd.prog 15 #[.string s, .int .i64 p] w fun e w' => e = .returned (.tuple #[.int .i64 a, .int .i64 b]) ∧ w = w' := by
  refine (refLine_any s p w hs hp).mono ?_
  rintro e w' ⟨rfl, rfl⟩
  exact ⟨(ret_pair h.out).symm, rfl⟩

set_option maxRecDepth 100000 in
set_option maxHeartbeats 1000000 in
theorem exact_bad (s : ByteArray) (n : Int) (p er : Nat) (w : World) (G : Good w) (hn : n ≤ 9223372036854775807) (hs : s.size ≤ 4106) (h : Hid (scanR s.data.toList = .bad p er)) :
    Calls Tryd.prog 3 #[.string s, .int .i64 n] w fun e w' => e = .returned (.bool true) ∧ Below w.heap.size w w' := by
  have i1 : ¬ (4106 : Int) < (s.size : Int) := by omega
  obtain ⟨b, hb⟩ : ∃ b, wordB s.data.toList = b := ⟨_, rfl⟩
  obtain ⟨c, hc⟩ : ∃ c, keyB s.data.toList = c := ⟨_, rfl⟩
  obtain ⟨q, hq⟩ : ∃ q, lineV s.data.toList n = q := ⟨_, rfl⟩
  obtain ⟨la, lb⟩ := q
  have HB := Lib.hid hb
  have HC := Lib.hid hc
  have HQ := Lib.hid hq
  clear hb hc hq
  go_enter Tryd.func3, Tryd.ntmps3
  go_wp2_with fail
  refine (awake_true w G).mono ?_
  rintro e w1 ⟨rfl, b1⟩
  have G1 := G.below b1
  clear G
  go_wp2_with fail
  refine (scanG_err s p er _ G1 (by omega) h).mono ?_
  rintro e w2 ⟨rfl, b2⟩
  have G2 := G1.below b2
  have d2 := b1.trans (b2.mono b1.size)
  clear b1 b2 G1
  go_wp2_with fail
  refine (scanR_err s p er _ (by omega) h).mono ?_
  rintro e w3 ⟨rfl, b3⟩
  have G3 := G2.below b3
  have d3 := d2.trans (b3.mono d2.size)
  clear b3 d2 G2
  go_wp2_with fail
  refine (isWord_to s b _ (by omega) G3 HB).mono ?_
  rintro e w' ⟨rfl, rfl⟩
  go_wp2_with fail
  refine (refWord_to s b _ HB).mono ?_
  rintro e w4 ⟨rfl, b4⟩
  have G4 := G3.below b4
  have d4 := d3.trans (b4.mono d3.size)
  clear b4 d3 G3
  go_wp2_with fail
  refine (isKey_to s c _ G4.keys HC).mono ?_
  rintro e w' ⟨rfl, rfl⟩
  go_wp2_with fail
  refine (refKey_to s c _ HC).mono ?_
  rintro e w5 ⟨rfl, b5⟩
  have d5 := d4.trans (b5.mono d4.size)
  clear b5 d4 G4
  go_wp2_with fail
  go_loop [11] (fun i => ∃ k : Nat, k ≤ 0 ∧ i = .int .i64 k) (fun _ => 0)
  case atStart => exact ⟨0, Nat.le_refl _, rfl⟩
  case round =>
    obtain ⟨k, hk, rfl⟩ := hrel
    obtain rfl : k = 0 := by omega
    go_wp2_with fail
    refine (lineE_to s n la lb _ (by omega) hn HQ).mono ?_
    rintro e w' ⟨rfl, rfl⟩
    go_wp2_with fail
    refine (refLine_to s n la lb _ (by omega) hn HQ).mono ?_
    rintro e w' ⟨rfl, rfl⟩
    go_wp2_with fail
    go_ret
    exact ⟨rfl, d5⟩

set_option maxRecDepth 100000 in
set_option maxHeartbeats 1000000 in
theorem exact_ok (s : ByteArray) (n : Int) (ts : List Tok) (w : World) (G : Good w) (hn : n ≤ 9223372036854775807) (hs : s.size ≤ 4106) (h : Hid (scanR s.data.toList = .ok ts)) :
    Calls Tryd.prog 3 #[.string s, .int .i64 n] w fun e w' => e = .returned (.bool true) ∧ Below w.heap.size w w' := by
  have i1 : ¬ (4106 : Int) < (s.size : Int) := by omega
  obtain ⟨b, hb⟩ : ∃ b, wordB s.data.toList = b := ⟨_, rfl⟩
  obtain ⟨c, hc⟩ : ∃ c, keyB s.data.toList = c := ⟨_, rfl⟩
  obtain ⟨q, hq⟩ : ∃ q, lineV s.data.toList n = q := ⟨_, rfl⟩
  obtain ⟨la, lb⟩ := q
  have HB := Lib.hid hb
  have HC := Lib.hid hc
  have HQ := Lib.hid hq
  obtain ⟨m, hm⟩ : ∃ m, ts.length = m := ⟨_, rfl⟩
  have HM := Lib.hid hm
  have hm4 : m ≤ 4096 := by
    have h1 := h.out
    unfold scanR at h1
    rw [len_size] at h1
    by_cases hl : 4096 < s.size
    · rw [if_pos hl] at h1; cases h1
    · rw [if_neg hl] at h1
      have := (sc_chain s.data.toList _ 0 ts (Nat.le_refl _) (Nat.zero_le _) h1).2.2
      rw [len_size] at this
      omega
  clear hb hc hq
  go_enter Tryd.func3, Tryd.ntmps3
  go_wp2_with fail
  refine (awake_true w G).mono ?_
  rintro e w1 ⟨rfl, b1⟩
  have G1 := G.below b1
  clear G
  go_wp2_with fail
  refine (scanG_ok s ts _ G1 (by omega) h).mono ?_
  rw [hm]
  rintro e w2 ⟨A, ca, rfl, hca, hA, b2⟩
  have HA2 := Lib.hid hA
  have G2 := G1.below b2
  have d2 := b1.trans (b2.mono b1.size)
  clear b1 b2 G1 hA
  go_wp2_with fail
  refine (scanR_ok s ts _ (by omega) h).mono ?_
  rw [hm]
  rintro e w3 ⟨B, cb, rfl, hcb, hB, b3⟩
  have HA3 := Lib.hid (HA2.out.below b3)
  have HB3 := Lib.hid hB
  have G3 := G2.below b3
  have d3 := d2.trans (b3.mono d2.size)
  clear b3 d2 G2 hB HA2 hm
  go_wp2_with fail
  refine (isWord_to s b _ (by omega) G3 HB).mono ?_
  rintro e w' ⟨rfl, rfl⟩
  go_wp2_with fail
  refine (refWord_to s b _ HB).mono ?_
  rintro e w4 ⟨rfl, b4⟩
  have G4 := G3.below b4
  have HA4 := Lib.hid (HA3.out.below b4)
  have HB4 := Lib.hid (HB3.out.below b4)
  have d4 := d3.trans (b4.mono d3.size)
  clear b4 d3 G3 HA3 HB3
  go_wp2_with fail
  refine (isKey_to s c _ G4.keys HC).mono ?_
  rintro e w' ⟨rfl, rfl⟩
  go_wp2_with fail
  refine (refKey_to s c _ HC).mono ?_
  rintro e w5 ⟨rfl, b5⟩
  have d5 := d4.trans (b5.mono d4.size)
  have HA5 := Lib.hid (HA4.out.below b5)
  have HB5 := Lib.hid (HB4.out.below b5)
  clear b5 d4 G4 HA4 HB4
  go_wp2_with fail
  go_loopw [11] (fun i wr => QRel m w5 i wr) (fun i _ => m - (intOf i).toNat)
  case atStart => exact ⟨0, 0, Nat.zero_le _, rfl, rfl⟩
  case round =>
    obtain ⟨j, nd, hj, rfl, rfl⟩ := hrel
    by_cases hlt : j < m
    · obtain ⟨g, rfl, hg, hcs⟩ := HA5.out (by have := HM.out; omega)
      obtain ⟨g2, rfl, hg2, hcs2⟩ := HB5.out (by have := HM.out; omega)
      have hjl : j < ts.length := by have := HM.out; omega
      obtain ⟨x0, x1, x2⟩ := hcs j ts[j] (List.getElem?_eq_getElem hjl)
      obtain ⟨y0, y1, y2⟩ := hcs2 j ts[j] (List.getElem?_eq_getElem hjl)
      generalize (⟨ts[j].text.toArray⟩ : ByteArray) = y at x1 y1
      generalize ts[j].kind = kd at x0 y0
      generalize ts[j].place = pl at x2 y2
      have HCS := Lib.hid hcs
      have HCS2 := Lib.hid hcs2
      clear hcs hcs2 hjl
      go_wp2_with fail
      go_quiet (fail)
      go_wp2_with fail
      refine ⟨⟨j + 1, _, by omega, by go_num, rfl⟩, ?_⟩
      simp [intOf]; omega
    · go_wp2_with fail
      refine (lineE_to s n la lb _ (by omega) hn HQ).mono ?_
      rintro e w' ⟨rfl, rfl⟩
      go_wp2_with fail
      refine (refLine_to s n la lb _ (by omega) hn HQ).mono ?_
      rintro e w' ⟨rfl, rfl⟩
      go_wp2_with fail
      go_ret
      exact ⟨rfl, below_drewN d5 _⟩

set_option maxRecDepth 100000 in
theorem exact_long (s : ByteArray) (n : Int) (w : World) (G : Good w) (h : 4106 < s.size) :
    Calls Tryd.prog 3 #[.string s, .int .i64 n] w fun e w' => e = .returned (.bool true) ∧ Below w.heap.size w w' := by
  have i1 : (4106 : Int) < (s.size : Int) := by omega
  go_enter Tryd.func3, Tryd.ntmps3
  go_wp2_with fail
  refine (awake_true w G).mono ?_
  rintro e w1 ⟨rfl, b1⟩
  go_wp2_with fail
  go_ret
  exact ⟨rfl, b1⟩
theorem exact_walk (s : ByteArray) (n : Int) (w : World) (G : Good w) (hn : n ≤ 9223372036854775807) :
    Calls Tryd.prog 3 #[.string s, .int .i64 n] w fun e w' => e = .returned (.bool true) ∧ Below w.heap.size w w' := by
  by_cases h : 4106 < s.size
  · exact exact_long s n w G h
  · cases hr : scanR s.data.toList with
    | bad p er => exact exact_bad s n p er w G hn (by omega) hr
    | ok ts => exact exact_ok s n ts w G hn (by omega) hr

end Go.Proofs.YteikheaanefgbaaDoor
