/-
  CONTRACT: Line at every text of at most 2^48 bytes and every place. The world is as it was.
-/
import Derived.Test.YteikheaanefgbaaDoorKeys
namespace Go.Proofs.YteikheaanefgbaaDoor
open Go.RowKit

def lcStep (a : Nat × Nat) (c : UInt8) : Nat × Nat := if c = 10 then (a.1 + 1, 1) else (a.1, a.2 + 1)
def lcN (l : List UInt8) : Nat × Nat := l.foldl lcStep (1, 1)
theorem lcN_snoc (l : List UInt8) (c : UInt8) : lcN (l ++ [c]) = lcStep (lcN l) c := by unfold lcN; rw [List.foldl_append]; rfl
theorem take_snoc (s : ByteArray) (k : Nat) (h : k < s.size) : s.data.toList.take (k + 1) = s.data.toList.take k ++ [s[k]] := by
  rw [List.take_succ_eq_append_getElem (by rw [len_size]; exact h)]; rfl
theorem lcN_next (s : ByteArray) (k : Nat) (h : k < s.size) : lcN (s.data.toList.take (k + 1)) = lcStep (lcN (s.data.toList.take k)) s[k] := by
  rw [take_snoc s k h, lcN_snoc]
theorem lc_line (l : List UInt8) : ∀ a : Nat × Nat, (l.foldl lcStep a).1 = a.1 + Lib.countByte l 10 := by
  unfold Lib.countByte
  induction l with
  | nil => intro a; simp
  | cons c r ih =>
    intro a
    rw [List.foldl_cons, ih, List.count_cons]
    by_cases h : c = 10
    · subst h; simp [lcStep]; omega
    · simp [lcStep, h]
theorem lc_col (s : ByteArray) : ∀ k : Nat, k ≤ s.size → ((lcN (s.data.toList.take k)).2 : Int) = k - Lib.lastIdx s 10 k := by
  intro k
  induction k with
  | zero => intro _; rw [List.take_zero]; rfl
  | succ k ih =>
    intro h
    have := ih (by omega)
    have hg : s.data[k]! = s[k] := by
      rw [getElem!_pos s.data k (by show k < s.size; omega)]; rfl
    rw [lcN_next s k (by omega), lcStep]
    by_cases h1 : s[k] = 10
    · rw [if_pos h1, Lib.lastIdx_hit s 10 k (by rw [hg, h1]; rfl)]; show ((1 : Nat) : Int) = _; omega
    · rw [if_neg h1, Lib.lastIdx_miss s 10 k (by
        rw [hg]; intro e; apply h1; exact UInt8.toNat_inj.1 (by show s[k].toNat = 10; omega))]
      show (((lcN (s.data.toList.take k)).2 + 1 : Nat) : Int) = _
      omega
theorem lcN_pos (l : List UInt8) : 1 ≤ (lcN l).1 ∧ 1 ≤ (lcN l).2 := by
  have key : ∀ (r : List UInt8) (a : Nat × Nat), 1 ≤ a.1 → 1 ≤ a.2 → 1 ≤ (r.foldl lcStep a).1 ∧ 1 ≤ (r.foldl lcStep a).2 := by
    intro r
    induction r with
    | nil => intro a h1 h2; exact ⟨h1, h2⟩
    | cons c r ih =>
      intro a h1 h2
      rw [List.foldl_cons]
      unfold lcStep
      split
      · exact ih _ (by show 1 ≤ a.1 + 1; omega) (Nat.le_refl _)
      · exact ih _ h1 (by show 1 ≤ a.2 + 1; omega)
  exact key l (1, 1) (Nat.le_refl _) (Nat.le_refl _)
theorem lcN_le (l : List UInt8) : (lcN l).1 + (lcN l).2 ≤ l.length + 2 := by
  have key : ∀ (r : List UInt8) (a : Nat × Nat), 1 ≤ a.2 → (r.foldl lcStep a).1 + (r.foldl lcStep a).2 ≤ r.length + (a.1 + a.2) := by
    intro r
    induction r with
    | nil => intro a _; simp
    | cons c r ih =>
      intro a h
      have h2 := ih (lcStep a c) (by unfold lcStep; split <;> simp)
      have h3 : (lcStep a c).1 + (lcStep a c).2 ≤ a.1 + a.2 + 1 := by unfold lcStep; split <;> simp <;> omega
      rw [List.foldl_cons, List.length_cons]
      omega
  exact key l (1, 1) (Nat.le_refl _)

/-- The line and the column of a place. -/
def lineV (l : List UInt8) (p : Int) : Int × Int := if p < 0 ∨ (l.length : Int) < p then (0, 0) else (((lcN (l.take p.toNat)).1 : Int), ((lcN (l.take p.toNat)).2 : Int))
theorem ret_pair {p : Int × Int} {a b : Int} (h : p = (a, b)) : Ending.returned (.tuple #[.int .i64 a, .int .i64 b]) = .returned (.tuple #[.int .i64 p.1, .int .i64 p.2]) := by rw [h]
theorem line_out {l : List UInt8} {p : Int} (h : p < 0 ∨ (l.length : Int) < p) : lineV l p = (0, 0) := by unfold lineV; rw [if_pos h]
theorem line_in (l : List UInt8) (k : Nat) (h : k ≤ l.length) : lineV l k = (((lcN (l.take k)).1 : Int), ((lcN (l.take k)).2 : Int)) := by
  unfold lineV; rw [if_neg (by omega), Int.toNat_natCast]

theorem count_to (s : ByteArray) (n : Int) (w : World) (h : Hid ((Lib.countByte s.data.toList 10 : Int) = n)) : Calls Tryd.prog 25 #[.string s, .string ⟨#[10]⟩] w fun e w' => e = .returned (.int .i64 n) ∧ w = w' := by
  refine (Tryd.strings_Count_one s 10 w).mono ?_
  rintro e w' ⟨rfl, rfl⟩
  exact ⟨ret_int h.out, rfl⟩
theorem last_to (s : ByteArray) (n : Int) (w : World) (hs : s.size ≤ 281474976710656) (h : Hid (Lib.lastIdx s 10 s.size = n)) : Calls Tryd.prog 26 #[.string s, .string ⟨#[10]⟩] w fun e w' => e = .returned (.int .i64 n) ∧ w = w' := by
  refine (Tryd.strings_LastIndex_one s ⟨#[10]⟩ rfl (by omega) w).mono ?_
  rintro e w' ⟨rfl, rfl⟩
  exact ⟨ret_int h.out, rfl⟩

set_option maxHeartbeats 400000 in
theorem line_any (s : ByteArray) (p : Int) (w : World) (hs : s.size ≤ 281474976710656) (hp : p ≤ 9223372036854775807) :
    Calls Tryd.prog 14 #[.string s, .int .i64 p] w fun e w' => e = .returned (.tuple #[.int .i64 (lineV s.data.toList p).1, .int .i64 (lineV s.data.toList p).2]) ∧ w = w' := by
  obtain ⟨r, hr⟩ : ∃ r, lineV s.data.toList p = r := ⟨_, rfl⟩
  rw [hr]
  have HR := Lib.hid hr
  clear hr
  by_cases h0 : p < 0
  · have HP : Hid (r = (0, 0)) := HR.out.symm.trans (line_out (Or.inl h0))
    go_enter Tryd.func14, Tryd.ntmps14
    go_wp2_with fail
    go_ret2
    exact ⟨ret_pair HP.out, rfl⟩
  · by_cases h1 : (s.size : Int) < p
    · have HP : Hid (r = (0, 0)) := HR.out.symm.trans (line_out (Or.inr (by rw [len_size]; exact h1)))
      go_enter Tryd.func14, Tryd.ntmps14
      go_wp2_with fail
      go_ret2
      exact ⟨ret_pair HP.out, rfl⟩
    · obtain ⟨k, rfl⟩ := Int.eq_ofNat_of_zero_le (show 0 ≤ p by omega)
      have hk : k ≤ s.size := by omega
      have hin := line_in s.data.toList k (by rw [len_size]; exact hk)
      rw [HR.out] at hin
      have hx : (s.extract 0 k).data.toList = s.data.toList.take k := by rw [cut_extract, List.drop_zero, Nat.sub_zero]
      have hxs : (s.extract 0 k).size = k := by rw [← len_size, hx, List.length_take, len_size]; omega
      have hl := lc_line (s.data.toList.take k) (1, 1)
      have hc := lc_col (s.extract 0 k) k (by omega)
      rw [hx, List.take_of_length_le (by rw [List.length_take]; omega)] at hc
      obtain ⟨n, hn⟩ : ∃ n : Nat, Lib.countByte (s.data.toList.take k) 10 = n := ⟨_, rfl⟩
      obtain ⟨m, hm⟩ : ∃ m : Int, Lib.lastIdx (s.extract 0 k) 10 k = m := ⟨_, rfl⟩
      have hle := lcN_le (s.data.toList.take k)
      have hps := lcN_pos (s.data.toList.take k)
      rw [List.length_take, len_size] at hle
      have hl2 : (lcN (s.data.toList.take k)).1 = 1 + n := by rw [← hn]; exact hl
      rw [hm] at hc
      have hn1 : n ≤ k := by omega
      have hm0 : -1 ≤ m := by omega
      have hm1 : m ≤ k := by omega
      have HN : Hid ((Lib.countByte (s.extract 0 k).data.toList 10 : Int) = n) := by show _ = _; rw [hx, hn]
      have HM : Hid (Lib.lastIdx (s.extract 0 k) 10 (s.extract 0 k).size = m) := by show _ = _; rw [hxs]; exact hm
      have HP : Hid (r = ((n : Int) + 1, (k : Int) - m)) := by
        show _ = _
        rw [hin, hl2, hc]
        congr 1; omega
      have HZ : Hid ((s.extract 0 k).size ≤ 281474976710656) := by show _ ≤ _; omega
      clear hin hx hxs hl hc hn hm hle hps hl2 HR h0 h1
      go_enter Tryd.func14, Tryd.ntmps14
      go_wp2_with (first | (go_at_call 25; refine (count_to _ _ _ HN).mono ?_; rintro e w' ⟨rfl, rfl⟩) | (go_at_call 26; refine (last_to _ _ _ HZ.out HM).mono ?_; rintro e w' ⟨rfl, rfl⟩))
      go_ret2
      exact ⟨ret_pair HP.out, rfl⟩

end Go.Proofs.YteikheaanefgbaaDoor
