/-
  CONTRACT: tokenAt at every text of at most 2^48 bytes and every place in it, in a world in which the listed variables lie as the program's text lays them; of what was there nothing has turned.
-/
import Derived.Test.YteikheaanefgbaaDoorSign
namespace Go.Proofs.YteikheaanefgbaaDoor
open Go.RowKit

/-- What the laws' rows list, as the contracts want it. -/
structure Good (w : World) : Prop where
  keys : KeysIn w
  longs : LongsIn w
  rng : RngIn w
  size : 8 ≤ w.heap.size
theorem Good.below {w w' : World} (h : Good w) (hb : Below w.heap.size w w') : Good w' where
  keys := h.keys.below hb (by have := h.size; omega)
  longs := h.longs.below hb (by have := h.size; omega)
  rng := rng_below h.rng hb (by have := h.size; omega)
  size := Nat.le_trans h.size hb.size
theorem Good.alloc {w : World} (h : Good w) (o : Obj) : Good (w.alloc o) := h.below ((Below.refl _ _).alloc (Nat.le_refl _) _)

theorem tkOf_form (s : ByteArray) (k : Nat) (t : Tk) : ∃ a x b c, tkOf s k t = tkV a x b c := by
  unfold tkOf; split
  · exact ⟨_, _, _, _, rfl⟩
  · exact ⟨_, _, _, _, rfl⟩
theorem tokAt_let {s : ByteArray} {k : Nat} (hk : k < s.size) (h : letB s[k] = true) : tokAt s.data.toList k = wordT (s.data.toList.drop k) := by
  unfold tokAt
  rw [List.drop_eq_getElem_cons (by rw [len_size]; exact hk)]
  exact tokT_let _ h
theorem tokAt_dig {s : ByteArray} {k : Nat} (hk : k < s.size) (h : letB s[k] = false) (hd : digB s[k] = true) : tokAt s.data.toList k = numT (s.data.toList.drop k) := by
  unfold tokAt
  rw [List.drop_eq_getElem_cons (by rw [len_size]; exact hk)]
  exact tokT_dig _ h hd
theorem tokAt_sign {s : ByteArray} {k : Nat} (hk : k < s.size) (h : letB s[k] = false) (hd : digB s[k] = false) : tokAt s.data.toList k = signT (s.data.toList.drop k) s[k] := by
  unfold tokAt
  rw [List.drop_eq_getElem_cons (by rw [len_size]; exact hk)]
  exact tokT_sign _ h hd

set_option maxHeartbeats 400000 in
theorem tokenAt_any (s : ByteArray) (k : Nat) (a : Int) (x : ByteArray) (b c : Int) (w : World) (hs : s.size ≤ 281474976710656) (hk : k < s.size) (G : Good w) (hr : Hid (tkOf s k (tokAt s.data.toList k) = tkV a x b c)) :
    Calls Tryd.prog 18 #[.string s, .int .i64 k] w fun e w' => e = .returned (.tuple #[.agg #[.int .i64 a, .string x, .int .i64 b], .int .i64 c]) ∧ Below w.heap.size w w' := by
  have G2 := G.alloc (.cells #[.int .i64 0, .string ⟨#[]⟩, .int .i64 0] 32)
  clear G
  cases h1 : letB s[k] with
  | true =>
    rw [tokAt_let hk h1] at hr
    have hc : Calls Tryd.prog 31 #[.string s, .int .i64 k] (w.alloc (.cells #[.int .i64 0, .string ⟨#[]⟩, .int .i64 0] 32)) fun e w' => e = .returned (.tuple #[.agg #[.int .i64 a, .string x, .int .i64 b], .int .i64 c]) ∧ Below (w.alloc (.cells #[.int .i64 0, .string ⟨#[]⟩, .int .i64 0] 32)).heap.size (w.alloc (.cells #[.int .i64 0, .string ⟨#[]⟩, .int .i64 0] 32)) w' := wordAt_any s k _ _ hs hk G2.keys hr
    have HC := Lib.hid hc
    have H1 := Lib.hid h1
    clear hc h1 hr G2
    go_enter Tryd.func18, Tryd.ntmps18
    go_wp2_with (go_at_call 23; refine (isLetter_to _ true _ H1).mono ?_; rintro e w' ⟨rfl, rfl⟩)
    refine HC.out.mono ?_
    rintro e w1 ⟨rfl, hb⟩
    obtain ⟨hc, hf⟩ := bcell hb
    have hz : w.heap.size < w1.heap.size := by have := hb.size; simp at this; omega
    go_wp2_with fail
    exact bodyPost_ret (v := tkV a x b c) (by simp [results, Tryd.results18, go_sem, tkV, hc]) rfl ⟨rfl, below3 hb _ _ _⟩
  | false =>
    have H1 := Lib.hid h1
    cases h2 : digB s[k] with
    | true =>
      rw [tokAt_dig hk h1 h2] at hr
      have hc : Calls Tryd.prog 33 #[.string s, .int .i64 k] (w.alloc (.cells #[.int .i64 0, .string ⟨#[]⟩, .int .i64 0] 32)) fun e w' => e = .returned (.tuple #[.agg #[.int .i64 a, .string x, .int .i64 b], .int .i64 c]) ∧ Below (w.alloc (.cells #[.int .i64 0, .string ⟨#[]⟩, .int .i64 0] 32)).heap.size (w.alloc (.cells #[.int .i64 0, .string ⟨#[]⟩, .int .i64 0] 32)) w' := numberAt_any s k _ _ hs hk (Lib.hid h2) G2.rng (by have := G2.size; omega) hr
      have HC := Lib.hid hc
      have H2 := Lib.hid h2
      clear hc h1 h2 hr G2
      go_enter Tryd.func18, Tryd.ntmps18
      go_wp2_with (first | (go_at_call 23; refine (isLetter_to _ false _ H1).mono ?_; rintro e w' ⟨rfl, rfl⟩) | (go_at_call 32; refine (isDigit_to _ true _ H2).mono ?_; rintro e w' ⟨rfl, rfl⟩))
      refine HC.out.mono ?_
      rintro e w1 ⟨rfl, hb⟩
      obtain ⟨hc, hf⟩ := bcell hb
      have hz : w.heap.size < w1.heap.size := by have := hb.size; simp at this; omega
      go_wp2_with fail
      exact bodyPost_ret (v := tkV a x b c) (by simp [results, Tryd.results18, go_sem, tkV, hc]) rfl ⟨rfl, below3 hb _ _ _⟩
    | false =>
      rw [tokAt_sign hk h1 h2] at hr
      have hc : Calls Tryd.prog 34 #[.string s, .int .i64 k] (w.alloc (.cells #[.int .i64 0, .string ⟨#[]⟩, .int .i64 0] 32)) fun e w' => e = .returned (.tuple #[.agg #[.int .i64 a, .string x, .int .i64 b], .int .i64 c]) ∧ Below (w.alloc (.cells #[.int .i64 0, .string ⟨#[]⟩, .int .i64 0] 32)).heap.size (w.alloc (.cells #[.int .i64 0, .string ⟨#[]⟩, .int .i64 0] 32)) w' := signAt_any s k _ _ hs hk G2.longs hr
      have HC := Lib.hid hc
      have H2 := Lib.hid h2
      clear hc h1 h2 hr G2
      go_enter Tryd.func18, Tryd.ntmps18
      go_wp2_with (first | (go_at_call 23; refine (isLetter_to _ false _ H1).mono ?_; rintro e w' ⟨rfl, rfl⟩) | (go_at_call 32; refine (isDigit_to _ false _ H2).mono ?_; rintro e w' ⟨rfl, rfl⟩))
      refine HC.out.mono ?_
      rintro e w1 ⟨rfl, hb⟩
      obtain ⟨hc, hf⟩ := bcell hb
      have hz : w.heap.size < w1.heap.size := by have := hb.size; simp at this; omega
      go_wp2_with fail
      exact bodyPost_ret (v := tkV a x b c) (by simp [results, Tryd.results18, go_sem, tkV, hc]) rfl ⟨rfl, below3 hb _ _ _⟩

end Go.Proofs.YteikheaanefgbaaDoor
