/-
  NumBack: THE LAW's CONTRACT: it answers true for every n and m that an int holds and every op, in a world in which the listed variables lie as the program's text lays them; of what was there nothing has turned.
-/
import Derived.Test.YtgdchlgepgbhhaaDoorLaid
import Derived.Test.YtgdchlgepgbhhaaDoorDigits
namespace Go.Proofs.YtgdchlgepgbhhaaDoor
open Go.RowKit

theorem text_to (n : Int) (s : ByteArray) (w : World) (G : Good w) (h0 : -9223372036854775808 ≤ n) (h1 : n ≤ 9223372036854775807) (h : Hid ((⟨(Lib.itoa n).toArray⟩ : ByteArray) = s)) :
    Calls Tryd.prog 22 #[.int .i64 n] w fun e w' => e = .returned (.string s) ∧ Below w.heap.size w w' := by
  refine (text_any n w G h0 h1).mono ?_
  rintro e w' ⟨rfl, hb⟩
  exact ⟨ret_str h.out, hb⟩
theorem parse_to (n : Int) (s : ByteArray) (w : World) (h0 : -9223372036854775808 ≤ n) (h1 : n ≤ 9223372036854775807) (h : Hid ((⟨(Lib.itoa n).toArray⟩ : ByteArray) = s)) :
    Calls Tryd.prog 20 #[.string s] w fun e w' => e = .returned (.tuple #[.int .i64 n, .int .i64 0]) ∧ Below w.heap.size w w' := by
  obtain ⟨a, b⟩ := itoa_back n h0 h1
  have hl := Lib.itoa_length_le n h0 h1
  have hs := h.out
  subst hs
  refine parse_ok _ n w ?_ a b
  have : (⟨(Lib.itoa n).toArray⟩ : ByteArray).size = (Lib.itoa n).length := List.size_toArray
  omega
theorem unary_to (op : Int) (b : Bool) (w : World) (h : Hid (unB op = b)) : Calls Tryd.prog 14 #[.int .i64 op] w fun e w' => e = .returned (.bool b) ∧ w = w' := by
  refine (isUnary_any op w).mono ?_
  rintro e w' ⟨rfl, rfl⟩
  exact ⟨ret_bool h.out, rfl⟩
theorem signOf_to (op : Int) (d : ByteArray) (w : World) (G : Good w) (h : Hid (signS op = d)) : Calls Tryd.prog 17 #[.int .i64 op] w fun e w' => e = .returned (.string d) ∧ w = w' := by
  refine (sign_any op w G.signs).mono ?_
  rintro e w' ⟨rfl, rfl⟩
  exact ⟨ret_str h.out, rfl⟩
theorem signed_to (s : ByteArray) (args x : Int) (b : Bool) (w : World) (G : Good w) (h : Hid (signedV s args = x)) (hb : Hid ((x != 0) = b)) :
    Calls Tryd.prog 16 #[.string s, .int .i64 args] w fun e w' => e = .returned (.tuple #[.int .i64 x, .bool b]) ∧ w = w' := by
  refine (signed_any s args w G.signs).mono ?_
  rintro e w' ⟨rfl, rfl⟩
  have h' := h.out
  subst h'
  exact ⟨ret_ib rfl hb.out, rfl⟩

theorem back_sign (op : Int) : (unB op = true ∧ signedV (signS op) 1 = op ∧ (op != 0) = true ∧ (signS op).toList.isEmpty = false) ∨
    (unB op = false ∧ signedV (signS op) 2 = op ∧ (op != 0) = true ∧ (signS op).toList.isEmpty = false) ∨ (unB op = false ∧ signS op = ⟨#[]⟩ ∧ signedV ⟨#[]⟩ 2 = 0) := by
  by_cases h : op < 1 ∨ 18 < op
  · exact Or.inr (Or.inr ⟨by unfold unB; simp; omega, by simp [signS, signL, h], by decide⟩)
  · rcases (by omega : op = 17 ∨ op = 18 ∨ op = 1 ∨ op = 2 ∨ op = 3 ∨ op = 4 ∨ op = 5 ∨ op = 6 ∨ op = 7 ∨ op = 8 ∨ op = 9 ∨ op = 10 ∨ op = 11 ∨ op = 12 ∨ op = 13 ∨ op = 14 ∨ op = 15 ∨ op = 16) with rfl | rfl | rfl | rfl | rfl | rfl | rfl | rfl | rfl | rfl | rfl | rfl | rfl | rfl | rfl | rfl | rfl | rfl <;> rw [ByteArray.toList_eq] <;> decide

theorem text_eq (n m : Int) (h0 : -9223372036854775808 ≤ n) (h1 : n ≤ 9223372036854775807) (g0 : -9223372036854775808 ≤ m) (g1 : m ≤ 9223372036854775807) :
    n = m ∨ (n == m) = false ∧ ((⟨(Lib.itoa n).toArray⟩ : ByteArray).toList == (⟨(Lib.itoa m).toArray⟩ : ByteArray).toList) = false := by
  by_cases h : n = m
  · exact Or.inl h
  · refine Or.inr ⟨by simpa using h, ?_⟩
    rw [ByteArray.toList_eq, ByteArray.toList_eq]
    simp only [beq_eq_false_iff_ne, ne_eq]
    exact fun e => h (itoa_inj n m h0 h1 g0 g1 e)

set_option maxHeartbeats 1000000 in
theorem back_walk (n m op : Int) (w : World) (G : Good w) (h0 : -9223372036854775808 ≤ n) (h1 : n ≤ 9223372036854775807) (g0 : -9223372036854775808 ≤ m) (g1 : m ≤ 9223372036854775807) :
    Calls Tryd.prog 8 #[.int .i64 n, .int .i64 m, .int .i64 op] w fun e w' => e = .returned (.bool true) ∧ Below w.heap.size w w' := by
  have HN : Hid (-9223372036854775808 ≤ n ∧ n ≤ 9223372036854775807) := ⟨h0, h1⟩
  have HM : Hid (-9223372036854775808 ≤ m ∧ m ≤ 9223372036854775807) := ⟨g0, g1⟩
  have hq := text_eq n m h0 h1 g0 g1
  obtain ⟨s, hs⟩ : ∃ s : ByteArray, (⟨(Lib.itoa n).toArray⟩ : ByteArray) = s := ⟨_, rfl⟩
  obtain ⟨t, ht⟩ : ∃ t : ByteArray, (⟨(Lib.itoa m).toArray⟩ : ByteArray) = t := ⟨_, rfl⟩
  rw [hs, ht] at hq
  have HS := Lib.hid hs
  have HT := Lib.hid ht
  have hst : n = m → s = t := fun e => by rw [← hs, ← ht, e]
  have hq2 : (n = m ∧ s = t) ∨ (n == m) = false ∧ (s.toList == t.toList) = false := hq.imp (fun e => ⟨e, hst e⟩) id
  obtain ⟨d, hd⟩ : ∃ d, signS op = d := ⟨_, rfl⟩
  have hk := back_sign op
  rw [hd] at hk
  have HD := Lib.hid hd
  clear hs ht hq hst hd h0 h1 g0 g1
  go_enter Tryd.func8, Tryd.ntmps8
  go_wp2_with fail
  refine (awake_true w G).mono ?_
  rintro e w1 ⟨rfl, b1⟩
  have G1 := G.below b1
  clear G
  go_wp2_with fail
  refine (text_to n s _ G1 HN.out.1 HN.out.2 HS).mono ?_
  rintro e w2 ⟨rfl, b2⟩
  have G2 := G1.below b2
  have c2 := b1.trans (b2.mono b1.size)
  clear b1 b2 G1
  go_wp2_with fail
  refine (parse_to n s _ HN.out.1 HN.out.2 HS).mono ?_
  rintro e w3 ⟨rfl, b3⟩
  have G3 := G2.below b3
  have c3 := c2.trans (b3.mono c2.size)
  clear b3 c2 G2
  go_wp2_with fail
  refine (text_to n s _ G3 HN.out.1 HN.out.2 HS).mono ?_
  rintro e w4 ⟨rfl, b4⟩
  have G4 := G3.below b4
  have c4 := c3.trans (b4.mono c3.size)
  clear b4 c3 G3
  go_wp2_with fail
  refine (text_to m t _ G4 HM.out.1 HM.out.2 HT).mono ?_
  rintro e w5 ⟨rfl, b5⟩
  have G5 := G4.below b5
  have c5 := c4.trans (b5.mono c4.size)
  clear b5 c4 G4
  have hq3 : (s.toList == t.toList) = (n == m) ∧ ((n == m) = true ∨ (n == m) = false) := by
    rcases hq2 with ⟨e1, e2⟩ | ⟨e1, e2⟩
    · rw [e2, e1]; simp
    · rw [e1, e2]; simp
  clear hq2
  obtain ⟨q1, q2⟩ := hq3
  rcases q2 with q2 | q2
  all_goals
    rw [q2] at q1
    rcases hk with ⟨u1, u2, u3, u4⟩ | ⟨u1, u2, u3, u4⟩ | ⟨u1, u2, u3⟩
    · have U1 := Lib.hid u1
      have U2 := Lib.hid u2
      have U3 := Lib.hid u3
      clear u1 u2 u3
      go_wp2_with fail
      refine (unary_to op true _ U1).mono ?_
      rintro e w' ⟨rfl, rfl⟩
      go_wp2_with fail
      refine (signOf_to op d _ G5 HD).mono ?_
      rintro e w' ⟨rfl, rfl⟩
      go_wp2_with fail
      refine (signed_to d 1 op true _ G5 U2 U3).mono ?_
      rintro e w' ⟨rfl, rfl⟩
      go_wp2_with fail
      refine (signOf_to op d _ G5 HD).mono ?_
      rintro e w' ⟨rfl, rfl⟩
      go_wp2_with fail
      go_ret
      exact ⟨rfl, c5⟩
    · have U1 := Lib.hid u1
      have U2 := Lib.hid u2
      have U3 := Lib.hid u3
      clear u1 u2 u3
      go_wp2_with fail
      refine (unary_to op false _ U1).mono ?_
      rintro e w' ⟨rfl, rfl⟩
      go_wp2_with fail
      refine (signOf_to op d _ G5 HD).mono ?_
      rintro e w' ⟨rfl, rfl⟩
      go_wp2_with fail
      refine (signed_to d 2 op true _ G5 U2 U3).mono ?_
      rintro e w' ⟨rfl, rfl⟩
      go_wp2_with fail
      refine (signOf_to op d _ G5 HD).mono ?_
      rintro e w' ⟨rfl, rfl⟩
      go_wp2_with fail
      go_ret
      exact ⟨rfl, c5⟩
    · have U1 := Lib.hid u1
      have U3 := Lib.hid u3
      subst u2
      clear u1 u3
      go_wp2_with fail
      refine (unary_to op false _ U1).mono ?_
      rintro e w' ⟨rfl, rfl⟩
      go_wp2_with fail
      refine (signOf_to op _ _ G5 HD).mono ?_
      rintro e w' ⟨rfl, rfl⟩
      go_wp2_with fail
      refine (signed_to _ 2 0 false _ G5 U3 (Lib.hid rfl)).mono ?_
      rintro e w' ⟨rfl, rfl⟩
      go_wp2_with fail
      refine (signOf_to op _ _ G5 HD).mono ?_
      rintro e w' ⟨rfl, rfl⟩
      go_wp2_with fail
      go_ret
      exact ⟨rfl, c5⟩

end Go.Proofs.YtgdchlgepgbhhaaDoor
