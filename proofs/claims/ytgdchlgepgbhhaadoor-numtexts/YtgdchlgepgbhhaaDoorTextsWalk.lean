/-
  NumTexts: THE LAW's CONTRACT: it answers true for every n that an int holds and every text, in a world in which the listed variables lie as the program's text lays them; of what was there nothing has turned.
-/
import Derived.Test.YtgdchlgepgbhhaaDoorLaid
import Derived.Test.YtgdchlgepgbhhaaDoorRefText
import Derived.Test.YtgdchlgepgbhhaaDoorRefParse
namespace Go.Proofs.YtgdchlgepgbhhaaDoor
open Go.RowKit

/-- What Atoi says of a text that is right in form is what is specified. -/
theorem parse_spec (s : ByteArray) (h : formB s = true) : (∃ v, Lib.atoiAll s.data.toList = .ok v ∧ specP s = (v, 0)) ∨ (Lib.atoiAll s.data.toList = .range ∧ specP s = (0, 2)) := by
  by_cases h0 : s.size = 0
  · have hE : s = ⟨#[]⟩ := Go.WideShapes.bytes_inj (List.length_eq_zero_iff.1 ((len_size s).trans h0))
    subst hE
    exact absurd h (by decide)
  · have hp : 0 < s.size := by omega
    obtain ⟨r, hr⟩ := head_at s hp
    by_cases h45 : s[0] = 45
    · obtain ⟨ht, hds⟩ := trim_neg s _ hp h45 rfl
      have hd : (trimV s).data.toList = r := by
        show Lib.trimPrefix s.data.toList [45] = r
        rw [hr, h45, trim_minus]
      have hpl : plainB r = true := by
        unfold formB at h
        rw [hd, hr, h45] at h
        simpa using h
      have hlt : (trimV s).size < s.size := by rw [ht]; omega
      rw [spec_neg h hlt, hd, hr, h45, atoi_minus hpl]
      by_cases hv : val 0 r ≤ 9223372036854775808
      · rw [if_pos hv, if_pos hv]; exact Or.inl ⟨_, rfl, rfl⟩
      · rw [if_neg hv, if_neg hv]; exact Or.inr ⟨rfl, rfl⟩
    · have ht := trim_pos s (Or.inr ⟨hp, h45⟩)
      rw [spec_pos h (by rw [ht]; omega), ht]
      by_cases hz : s.data.toList = [48]
      · rw [hz, atoi_zero]
        exact Or.inl ⟨0, rfl, by decide⟩
      · have hpl : plainB s.data.toList = true := by
          unfold formB at h
          rw [ht] at h
          simpa [hz] using h
        rw [atoi_plain hpl]
        by_cases hv : val 0 s.data.toList < 9223372036854775808
        · rw [if_pos hv, if_pos hv]; exact Or.inl ⟨_, rfl, rfl⟩
        · rw [if_neg hv, if_neg hv]; exact Or.inr ⟨rfl, rfl⟩

set_option maxHeartbeats 400000 in
theorem parse_any (s : ByteArray) (p : Int × Int) (w : World) (G : Good w) (hlim : s.size ≤ 281474976710656) (hp : Hid (specP s = p)) :
    Calls Tryd.prog 20 #[.string s] w fun e w' => e = .returned (.tuple #[.int .i64 p.1, .int .i64 p.2]) ∧ Below w.heap.size w w' := by
  by_cases hf : formB s = true
  · rcases parse_spec s hf with ⟨v, hv, hs⟩ | ⟨hv, hs⟩
    · have hpv := hp.out
      rw [hs] at hpv
      subst hpv
      exact parse_ok s v w hlim hf hv
    · have hpv := hp.out
      rw [hs] at hpv
      subst hpv
      obtain ⟨tp, q, hvar⟩ := G.rng
      have hc := Tryd.strconv_Atoi_range_var s hlim hv tp q w hvar
      have hi : Calls Tryd.prog 41 #[.string s] w fun e w' => e = .returned (.bool true) ∧ w = w' := by
        rw [← hf]
        exact isForm_any s w (by unfold maxLen; omega)
      have HC := Lib.hid hc
      have HI := Lib.hid hi
      clear hc hi hv hf hlim hvar hs hp G
      go_enter Tryd.func20, Tryd.ntmps20
      go_wp2_with (first | (go_at_call 41; refine HI.out.mono ?_; rintro e w' ⟨rfl, rfl⟩) | (go_at_call 42; refine HC.out.mono ?_; rintro e w' ⟨K, rfl, _, _, hb⟩))
      go_ret2
      exact ⟨rfl, hb⟩
  · have hf' : formB s = false := by simpa using hf
    have hpv := hp.out
    rw [spec_no hf'] at hpv
    subst hpv
    have hi : Calls Tryd.prog 41 #[.string s] w fun e w' => e = .returned (.bool false) ∧ w = w' := by
      rw [← hf']
      exact isForm_any s w (by unfold maxLen; omega)
    have HI := Lib.hid hi
    clear hi hf hf' hlim hp G
    go_enter Tryd.func20, Tryd.ntmps20
    go_wp2_with (go_at_call 41; refine HI.out.mono ?_; rintro e w' ⟨rfl, rfl⟩)
    go_ret2
    exact ⟨rfl, Below.refl _ _⟩

theorem refParse_to (s : ByteArray) (p : Int × Int) (w : World) (hs : s.size ≤ 100) (hp : Hid (specP s = p)) :
    Calls Tryd.prog 21 #[.string s] w fun e w' => e = .returned (.tuple #[.int .i64 p.1, .int .i64 p.2]) ∧ w = w' := by
  have h := hp.out
  subst h
  exact refParse_any s w hs
theorem textOf_to (n : Int) (s : ByteArray) (w : World) (G : Good w) (hn : Hid (-9223372036854775808 ≤ n ∧ n ≤ 9223372036854775807)) (h : Hid ((⟨(Lib.itoa n).toArray⟩ : ByteArray) = s)) :
    Calls Tryd.prog 22 #[.int .i64 n] w fun e w' => e = .returned (.string s) ∧ Below w.heap.size w w' := by
  refine (text_any n w G hn.out.1 hn.out.2).mono ?_
  rintro e w' ⟨rfl, hb⟩
  exact ⟨ret_str h.out, hb⟩
theorem refText_to (n : Int) (s : ByteArray) (w : World) (hn : Hid (-9223372036854775808 ≤ n ∧ n ≤ 9223372036854775807)) (h : Hid ((⟨(Lib.itoa n).toArray⟩ : ByteArray) = s)) :
    Calls Tryd.prog 23 #[.int .i64 n] w fun e w' => e = .returned (.string s) ∧ Below w.heap.size w w' := by
  refine (refText_any n w hn.out.1 hn.out.2).mono ?_
  rintro e w' ⟨rfl, hb⟩
  exact ⟨ret_str h.out, hb⟩

set_option maxHeartbeats 1000000 in
theorem texts_walk (n : Int) (s : ByteArray) (w : World) (G : Good w) (h0 : -9223372036854775808 ≤ n) (h1 : n ≤ 9223372036854775807) (hm : s.size ≤ 281474976710656) :
    Calls Tryd.prog 5 #[.int .i64 n, .string s] w fun e w' => e = .returned (.bool true) ∧ Below w.heap.size w w' := by
  have HN : Hid (-9223372036854775808 ≤ n ∧ n ≤ 9223372036854775807) := ⟨h0, h1⟩
  obtain ⟨t, ht⟩ : ∃ t : ByteArray, (⟨(Lib.itoa n).toArray⟩ : ByteArray) = t := ⟨_, rfl⟩
  obtain ⟨p, hp⟩ : ∃ p, specP s = p := ⟨_, rfl⟩
  have HT := Lib.hid ht
  have HP := Lib.hid hp
  clear ht hp h0 h1
  obtain ⟨p1, p2⟩ := p
  go_enter Tryd.func5, Tryd.ntmps5
  go_wp2_with fail
  refine (awake_true w G).mono ?_
  rintro e w1 ⟨rfl, b1⟩
  have G1 := G.below b1
  clear G
  by_cases hl : 100 < s.size
  · have hl' : (100 : Int) < (s.size : Int) := by omega
    go_wp2_with fail
    go_ret
    exact ⟨rfl, b1⟩
  · have hl' : ¬ (100 : Int) < (s.size : Int) := by omega
    go_wp2_with fail
    refine (parse_any s (p1, p2) _ G1 hm HP).mono ?_
    rintro e w2 ⟨rfl, b2⟩
    have G2 := G1.below b2
    have c2 := b1.trans (b2.mono b1.size)
    clear b1 b2 G1
    go_wp2_with fail
    refine (refParse_to s (p1, p2) _ (by omega) HP).mono ?_
    rintro e w' ⟨rfl, rfl⟩
    go_wp2_with fail
    refine (textOf_to n t _ G2 HN HT).mono ?_
    rintro e w3 ⟨rfl, b3⟩
    have c3 := c2.trans (b3.mono c2.size)
    clear b3 c2 G2
    go_wp2_with fail
    refine (refText_to n t _ HN HT).mono ?_
    rintro e w4 ⟨rfl, b4⟩
    have c4 := c3.trans (b4.mono c3.size)
    go_wp2_with fail
    go_ret
    exact ⟨rfl, c4⟩

end Go.Proofs.YtgdchlgepgbhhaaDoor
