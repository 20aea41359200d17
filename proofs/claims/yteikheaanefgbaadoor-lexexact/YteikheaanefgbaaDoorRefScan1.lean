/-
  One round of the reference's Scan, where a blank or a comment stands: the invariant of its loop, the loop's body, and two of the cases. Of what was there nothing has turned.
-/
import Derived.Test.YteikheaanefgbaaDoorRefKey
import Derived.Test.YteikheaanefgbaaDoorRefSign
import Derived.Test.YteikheaanefgbaaDoorRefParse
import Derived.Test.YteikheaanefgbaaDoorScan
namespace Go.Proofs.YteikheaanefgbaaDoor
open Go.RowKit

def RScanQ (r : R) (w : World) (e : Ending) (w' : World) : Prop := Below w.heap.size w w' ∧ (match r with
  | .ok ts => ∃ v, e = .returned (.tuple #[v, .int .i64 0, .int .i64 0]) ∧ w'.ownsRow w.heap.size 33 3 v ts.length (cellsT ts)
  | .bad p er => e = .returned (.tuple #[.slice none 0 0, .int .i64 p, .int .i64 er]))
def RsRel (s : ByteArray) (w : World) (r : R) (v i : Value) (wr : World) : Prop :=
  ∃ (ts : List Tok) (p : Nat), p ≤ s.size ∧ ts.length ≤ p ∧ i = .int .i64 p ∧ Hid (r = (sc s.data.toList p).pre ts) ∧ Hid (wr.ownsRow w.heap.size 33 3 v ts.length (cellsT ts)) ∧ Below w.heap.size w wr
theorem rtok_info : (Tryd.prog.info? 33).map (fun i => (i.zero, i.size, i.bytes)) = some (some (.agg #[.int .i64 0, .string ⟨#[]⟩, .int .i64 0]), 3, 32) := by kernel_rfl
theorem scS_end {s : ByteArray} {k : Nat} (h : s.size ≤ k) : sc s.data.toList k = .ok [] := sc_end (by rw [len_size]; exact h)
theorem scS_blk {s : ByteArray} {k : Nat} (h : k < s.size) (hb : blkB s[k] = true) : sc s.data.toList k = sc s.data.toList (k + 1) := sc_blk (by rw [len_size]; exact h) hb
theorem scS_com {s : ByteArray} {k : Nat} (h : k < s.size) (hb : blkB s[k] = false) (hc : comAt s.data.toList k = true) : sc s.data.toList k = sc s.data.toList (endAt notNl s.data.toList k) := sc_com (by rw [len_size]; exact h) hb hc
theorem scS_tok {s : ByteArray} {k : Nat} (h : k < s.size) (hb : blkB s[k] = false) (hc : comAt s.data.toList k = false) (he : (tokAt s.data.toList k).err = 0) :
    sc s.data.toList k = (sc s.data.toList (k + (tokAt s.data.toList k).len)).pre [⟨(tokAt s.data.toList k).kind, (s.data.toList.drop k).take (tokAt s.data.toList k).len, k⟩] := sc_tok (by rw [len_size]; exact h) hb hc he
theorem scS_bad {s : ByteArray} {k : Nat} (h : k < s.size) (hb : blkB s[k] = false) (hc : comAt s.data.toList k = false) (he : (tokAt s.data.toList k).err ≠ 0) : sc s.data.toList k = .bad k (tokAt s.data.toList k).err := sc_bad (by rw [len_size]; exact h) hb hc he
theorem blk_iff (c : UInt8) : blkB c = true ↔ (c.toNat = 32 ∨ c.toNat = 9 ∨ c.toNat = 10 ∨ c.toNat = 13) := by simp [blkB]; omega
theorem comAt_iff (s : ByteArray) (k : Nat) (h : k < s.size) : comAt s.data.toList k = true ↔ (s[k].toNat = 47 ∧ ∃ h1 : k + 1 < s.size, s[k + 1].toNat = 47) := by
  unfold comAt
  rw [List.drop_eq_getElem_cons (by rw [len_size]; exact h)]
  by_cases h1 : k + 1 < s.size
  · rw [List.drop_eq_getElem_cons (by rw [len_size]; exact h1)]
    simp only [comB, Bool.and_eq_true, decide_eq_true_eq]
    exact ⟨fun ⟨a, b⟩ => ⟨a, h1, b⟩, fun ⟨a, _, b⟩ => ⟨a, b⟩⟩
  · rw [List.drop_of_length_le (by rw [len_size]; omega)]
    simp only [comB]
    exact ⟨fun h => (by cases h), fun ⟨_, h2, _⟩ => absurd h2 h1⟩

theorem sign_two (l : List UInt8) (c : UInt8) (hl : ∃ r, l = c :: r) : (∃ m : Nat, 1 ≤ m ∧ m ≤ 2 ∧ signT l c = ⟨0, 4, m⟩ ∧ signN l c = (m : Int) ∧ m ≤ l.length) ∨ (signT l c = ⟨1, 0, 0⟩ ∧ signN l c = 0) := by
  obtain ⟨r, rfl⟩ := hl
  unfold signT signN shortN
  by_cases h1 : longB (c :: r) = true
  · exact Or.inl ⟨2, by omega, by omega, by rw [if_pos h1], by rw [if_pos h1]; rfl, long_len h1⟩
  · by_cases h2 : shortB c = true
    · exact Or.inl ⟨1, by omega, by omega, by rw [if_neg h1, if_pos h2], by rw [if_neg h1, if_pos h2]; rfl, by simp⟩
    · exact Or.inr ⟨by rw [if_neg h1, if_neg h2], by rw [if_neg h1, if_neg h2]⟩
theorem refParse_to (s : ByteArray) (p : Int × Int) (w : World) (hs : s.size ≤ 5000) (hp : Hid (specP s = p)) :
    Calls Tryd.prog 21 #[.string s] w fun e w' => e = .returned (.tuple #[.int .i64 p.1, .int .i64 p.2]) ∧ w = w' := by
  have h := hp.out
  subst h
  exact refParse_any s w hs
theorem news0 (w : World) (e : TypeId) (a b c : Value) : ∀ j u, [a, b, c][j]? = some u → (w.alloc (.cells #[a, b, c] e)).cell? ((⟨w.heap.size, 0, none⟩ : Addr).add j) = some u :=
  World.news_of_block (heap_alloc_new w (.cells #[a, b, c] e))

/-- The loop's body, out of the translation. -/
def firstLoop : Code → Option Code
  | .loop c => some c
  | .seq a b => match firstLoop a with
    | some c => some c
    | none => firstLoop b
  | .block _ c => firstLoop c
  | .scope c => firstLoop c
  | .cond _ a b => match firstLoop a with
    | some c => some c
    | none => firstLoop b
  | _ => none
set_option maxRecDepth 100000 in
/-- The frame at the loop's head: f: what the slots hold that a round writes. -/
def frm (s : ByteArray) (w : World) (f : Nat → Value) (v i : Value) : Act :=
  ⟨#[.string s, undef, f 2, f 3, f 4, v, i, f 7, f 8, f 9, f 10, f 11, .string s, .int .i64 s.size, .bool false, .slice (some ⟨w.heap.size, 0, none⟩) 0 0, f 16, f 17, f 18, f 19, f 20, f 21, f 22, f 23, f 24, f 25, f 26, f 27, f 28, f 29, f 30, f 31, f 32, f 33, f 34, f 35, f 36, f 37, f 38, f 39, f 40, f 41, f 42, f 43, f 44, f 45, f 46, f 47, f 48, f 49, f 50, f 51, f 52, f 53, f 54, f 55, f 56, f 57, f 58, f 59, f 60, f 61, f 62, f 63, f 64, f 65, f 66, f 67, f 68, f 69, f 70, f 71, f 72, f 73, f 74, f 75, f 76, f 77, f 78, f 79, f 80, f 81, f 82, f 83, f 84, f 85, f 86, f 87, f 88, f 89, f 90, f 91, f 92, f 93, f 94, f 95, f 96, f 97, f 98, f 99, f 100, f 101, f 102, f 103, f 104, f 105, f 106, f 107, f 108, f 109, f 110, f 111, f 112, f 113, f 114, f 115, f 116, f 117, f 118, f 119, f 120, f 121, f 122, f 123, f 124, f 125, f 126, f 127, f 128, f 129, f 130, f 131, f 132, f 133, f 134, f 135, f 136, f 137, f 138, f 139, f 140, f 141, f 142, f 143, f 144, f 145, f 146, f 147, f 148, f 149, f 150, f 151, f 152, f 153, f 154, undef], []⟩
def RI (s : ByteArray) (w : World) (r : R) (a : Act) (w' : World) : Prop := ∃ (f : Nat → Value) (v i : Value), RsRel s w r v i w' ∧ a = frm s w f v i
def Rmu (s : ByteArray) (a : Act) (_ : World) : Nat := s.size - (intOf (a.tmps.getD 6 undef)).toNat
/-- What a round owes. -/
def Round (s : ByteArray) (w : World) (r : R) (f : Nat → Value) (v : Value) (p : Nat) (wr : World) : Prop :=
  ∀ Q0 : Exit → Act → World → Prop, (∀ a' w'', bodyPost Tryd.prog Tryd.f9 (RScanQ r w) .ret a' w'' → Q0 .ret a' w'') →
    Code.wp Tryd.prog ((Tryd.f9.body.bind firstLoop).getD .skip) (Exit.then (fun a' w'' => RI s w r a' w'' ∧ Rmu s a' w'' < s.size - p) Q0) (frm s w f v (.int .i64 p)) wr
theorem ri_end {s : ByteArray} {w W : World} {r : R} {arr : Array Value} (v i : Value) (q p : Nat) (ha : (⟨arr, []⟩ : Act) = frm s w (fun n => arr.getD n undef) v i) (hi : i = .int .i64 q) (h : RsRel s w r v (.int .i64 q) W) (hq : p < q) (hp : p < s.size) :
    RI s w r ⟨arr, []⟩ W ∧ Rmu s ⟨arr, []⟩ W < s.size - p := by
  refine ⟨⟨_, v, i, by rw [hi]; exact h, ha⟩, ?_⟩
  rw [ha, hi]
  show s.size - (intOf (Value.int .i64 q)).toNat < s.size - p
  simp only [intOf, Int.toNat_natCast]
  omega

set_option maxRecDepth 100000 in
set_option maxHeartbeats 4000000 in
theorem round_blank (s : ByteArray) (r : R) (w wr : World) (f : Nat → Value) (v : Value) (p : Nat) (ts : List Tok) (hs : s.size ≤ 4096) (hts : ts.length ≤ p) (HRR : Hid (r = (sc s.data.toList p).pre ts)) (HOWN : Hid (wr.ownsRow w.heap.size 33 3 v ts.length (cellsT ts))) (hb : Below w.heap.size w wr) (hlt : p < s.size) (hbk : blkB s[p] = true) : Round s w r f v p wr := by
  intro Q0 hret
  have HRET := Lib.hid hret
  clear hret
  conv => arg 2; whnf
  unfold frm
  have HR2 : Hid (r = (sc s.data.toList (p + 1)).pre ts) := by
    show _ = _
    rw [HRR.out, scS_blk hlt hbk]
  have hbk2 := (blk_iff _).1 hbk
  clear HRR hbk
  rcases hbk2 with h | h | h | h
  all_goals
    have h' : ((s[p].toNat : Nat) : Int) = _ := congrArg Int.ofNat h
    clear h
    go_wp2_with fail
    exact ri_end v (.int .i64 ((p : Int) + 1)) (p + 1) p (by kernel_rfl) (by go_num) ⟨ts, p + 1, by omega, by omega, rfl, HR2, HOWN, hb⟩ (by omega) hlt

set_option maxRecDepth 100000 in
set_option maxHeartbeats 4000000 in
theorem round_com (s : ByteArray) (r : R) (w wr : World) (f : Nat → Value) (v : Value) (p : Nat) (ts : List Tok) (hs : s.size ≤ 4096) (hts : ts.length ≤ p) (HRR : Hid (r = (sc s.data.toList p).pre ts)) (HOWN : Hid (wr.ownsRow w.heap.size 33 3 v ts.length (cellsT ts))) (hb : Below w.heap.size w wr) (hlt : p < s.size) (hbk : ¬ blkB s[p] = true) (hcm : comAt s.data.toList p = true) : Round s w r f v p wr := by
  intro Q0 hret
  have HRET := Lib.hid hret
  clear hret
  conv => arg 2; whnf
  unfold frm
  have hbf : blkB s[p] = false := by simpa using hbk
  have hnb : ¬ (s[p].toNat = 32 ∨ s[p].toNat = 9 ∨ s[p].toNat = 10 ∨ s[p].toNat = 13) := fun h => hbk ((blk_iff _).2 h)
  have n1 : ((s[p].toNat : Int) == 32) = false := beq_eq_false_iff_ne.2 (by omega)
  have n2 : ((s[p].toNat : Int) == 9) = false := beq_eq_false_iff_ne.2 (by omega)
  have n3 : ((s[p].toNat : Int) == 10) = false := beq_eq_false_iff_ne.2 (by omega)
  have n4 : ((s[p].toNat : Int) == 13) = false := beq_eq_false_iff_ne.2 (by omega)
  have HBF := Lib.hid hbf
  clear hbk hnb hbf
  have hR2 := scS_com hlt HBF.out hcm
  have h1 := endAt_com (by rw [len_size]; exact hlt) hcm
  have h2 : endAt notNl s.data.toList p ≤ s.size := by rw [← len_size]; exact endAt_le (by rw [len_size]; omega)
  obtain ⟨hc0, hc1, hc2⟩ := (comAt_iff s p hlt).1 hcm
  obtain ⟨q, hq⟩ : ∃ q, endAt notNl s.data.toList p = q := ⟨_, rfl⟩
  rw [hq] at hR2 h1 h2
  have HR2 : Hid (r = (sc s.data.toList q).pre ts) := by
    show _ = _
    rw [HRR.out, hR2]
  have HQ := Lib.hid hq
  have c0 : ((s[p].toNat : Int) == 47) = true := by simp; omega
  have c1 : (p : Int) + 1 < (s.size : Int) := by omega
  have c2 : ((s[p + 1].toNat : Int) == 47) = true := by simp; omega
  clear hcm hR2 hq hc0 hc2 HRR
  go_wp2_with fail
  go_loop [6] (fun i => ∃ k : Nat, p ≤ k ∧ k ≤ s.size ∧ i = .int .i64 k ∧ Hid (endAt notNl s.data.toList k = q)) (fun i => s.size - (intOf i).toNat)
  case atStart => exact ⟨p, Nat.le_refl _, by omega, rfl, HQ⟩
  case round =>
    obtain ⟨k, hk0, hk, rfl, HK⟩ := hrel
    by_cases hltk : k < s.size
    · by_cases h10 : s[k].toNat = 10
      · have h10b : ((s[k].toNat : Int) != 10) = false := by simp; omega
        have hkq : k = q := by rw [← HK.out, endS_stop hltk (by simp [notNl, h10])]
        subst hkq
        clear h10 HK
        go_wp2_with fail
        exact ri_end v (.int .i64 (k : Int)) k p (by kernel_rfl) rfl ⟨ts, k, by omega, by omega, rfl, HR2, HOWN, hb⟩ (by omega) hlt
      · have h10b : ((s[k].toNat : Int) != 10) = true := by simp; omega
        have H10 := Lib.hid h10
        clear h10
        go_wp2_with fail
        go_round
        case rel => exact ⟨k + 1, by omega, by omega, by go_num, (endS_step hltk (by simp [notNl, H10.out])).symm.trans HK.out⟩
        case measure => simp [intOf]; omega
    · have hkq : k = q := by rw [← HK.out, endAt_end (by rw [len_size]; omega)]
      subst hkq
      clear HK
      go_wp2_with fail
      exact ri_end v (.int .i64 (k : Int)) k p (by kernel_rfl) rfl ⟨ts, k, by omega, by omega, rfl, HR2, HOWN, hb⟩ (by omega) hlt

end Go.Proofs.YteikheaanefgbaaDoor
