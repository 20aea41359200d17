/-
  CONTRACTS: wordAt, numberAt, signAt, tokenAt at every text of at most 2^48 bytes and every place in it, where the tables lie as the program's text lays them; of what was there nothing has turned.
-/
import Derived.Test.YteikheaanefgbaaDoorParse
import Derived.Deep.QuietTactic
import Derived.BigQuiet
namespace Go.Proofs.YteikheaanefgbaaDoor
open Go.RowKit

theorem KeysIn.below {w w' : World} {B : Nat} (h : KeysIn w) (hb : Below B w w') (hB : 0 < B) : KeysIn w' := by
  obtain ⟨t, fr, hg⟩ := h
  exact ⟨t, fr, (hb.block 0 hB).trans hg⟩
theorem KeysIn.alloc {w : World} (h : KeysIn w) (o : Obj) : KeysIn (w.alloc o) := by
  obtain ⟨t, fr, hg⟩ := h
  exact ⟨t, fr, (Below.heap_alloc w o 0 (Array.getElem?_eq_some_iff.1 hg).1).trans hg⟩
theorem LongsIn.below {w w' : World} {B : Nat} (h : LongsIn w) (hb : Below B w w') (hB : 1 < B) : LongsIn w' := by
  obtain ⟨t, fr, hg⟩ := h
  exact ⟨t, fr, (hb.block 1 hB).trans hg⟩
theorem LongsIn.alloc {w : World} (h : LongsIn w) (o : Obj) : LongsIn (w.alloc o) := by
  obtain ⟨t, fr, hg⟩ := h
  exact ⟨t, fr, (Below.heap_alloc w o 1 (Array.getElem?_eq_some_iff.1 hg).1).trans hg⟩
theorem isKey_to (s : ByteArray) (b : Bool) (w : World) (hK : KeysIn w) (hb : Hid (keyB s.data.toList = b)) : Calls Tryd.prog 12 #[.string s] w fun e w' => e = .returned (.bool b) ∧ w = w' := by
  rw [← hb.out]; exact isKey_any s w hK

/-- A token and an error. -/
def tkV (kd : Int) (t : ByteArray) (p e : Int) : Value := .tuple #[.agg #[.int .i64 kd, .string t, .int .i64 p], .int .i64 e]
def tkOf (s : ByteArray) (k : Nat) (t : Tk) : Value := if t.err = 0 then tkV t.kind (s.extract k (k + t.len)) k 0 else tkV 0 ⟨#[]⟩ 0 t.err

theorem word_at (l : List UInt8) (k : Nat) (q : Nat) (hq : endAt wchB l k = q) : wordT (l.drop k) = if 12 < q - k then ⟨4, 0, 0⟩ else if keyB ((l.drop k).take (q - k)) then ⟨0, 2, q - k⟩ else ⟨0, 1, q - k⟩ := by
  have : runN wchB (l.drop k) = q - k := by rw [← hq, endAt]; omega
  unfold wordT; rw [this]

set_option maxHeartbeats 400000 in
theorem wordAt_any (s : ByteArray) (k : Nat) (r : Value) (w : World) (hs : s.size ≤ 281474976710656) (hk : k < s.size) (hK : KeysIn w) (hr : Hid (tkOf s k (wordT (s.data.toList.drop k)) = r)) :
    Calls Tryd.prog 31 #[.string s, .int .i64 k] w fun e w' => e = .returned r ∧ Below w.heap.size w w' := by
  have HK := Lib.hid hK
  clear hK
  obtain ⟨q, hq⟩ : ∃ q, endAt wchB s.data.toList k = q := ⟨_, rfl⟩
  have h1 := le_endAt wchB s.data.toList k
  have h2 : endAt wchB s.data.toList k ≤ s.size := by rw [← len_size]; exact endAt_le (by rw [len_size]; omega)
  have h3 := word_at s.data.toList k q hq
  rw [hq] at h1 h2
  have HQ := Lib.hid hq
  have H3 := Lib.hid h3
  clear hq h3
  have hx : (s.extract k q).data.toList = (s.data.toList.drop k).take (q - k) := cut_extract s k q
  have hxs : (s.extract k q).size = q - k := by rw [← len_size, hx, List.length_take, List.length_drop, len_size]; omega
  obtain ⟨x, hX⟩ : ∃ x, s.extract k q = x := ⟨_, rfl⟩
  have hX2 : ∀ w, (Instr.slice 9 (.string s) (some (.int .i64 k)) (some (.int .i64 q)) none).run Tryd.prog w = .ok (.string x) w := fun w => by
    rw [run_slice_string (P := Tryd.prog) w 9 s .i64 .i64 k q Tryd.underlying9 (by omega) (by omega) (by omega), ← hX]; rfl
  rw [hX] at hx hxs
  have HX := Lib.hid hX
  have HX1 := Lib.hid hx
  clear hX hx
  by_cases h12 : 12 < x.size
  · have hi : (12 : Int) < (x.size : Int) := by omega
    have HR : Hid (tkV 0 ⟨#[]⟩ 0 4 = r) := by
      show _ = _
      rw [← hr.out, H3.out, if_pos (by omega)]; rfl
    have := HR.out
    subst this
    clear hxs
    go_enter Tryd.func31, Tryd.ntmps31
    go_wp2_with (go_at_call 24; refine (wordEnd_any s k q _ hs (by omega) HQ).mono ?_; rintro e w' ⟨rfl, rfl⟩)
    exact bodyPost_ret (v := tkV 0 ⟨#[]⟩ 0 4) (by simp [results, Tryd.results31, go_sem, tkV]) rfl ⟨rfl, (Below.refl _ _).alloc (Nat.le_refl _) _⟩
  · have hi : ¬ (12 : Int) < (x.size : Int) := by omega
    cases hky : keyB x.data.toList with
    | true =>
      have HR : Hid (tkV 2 x k 0 = r) := by
        show _ = _
        rw [← hr.out, H3.out, if_neg (by omega), if_pos (by rw [← HX1.out]; exact hky)]
        show _ = tkV 2 (s.extract k (k + (q - k))) k 0
        rw [show k + (q - k) = q by omega, HX.out]
      have HKY := Lib.hid hky
      have := HR.out
      subst this
      clear hxs hky
      go_enter Tryd.func31, Tryd.ntmps31
      go_wp2_with (first | (go_at_call 24; refine (wordEnd_any s k q _ hs (by omega) HQ).mono ?_; rintro e w' ⟨rfl, rfl⟩) | (go_at_call 12; refine (isKey_to _ true _ (by exact HK.out.alloc _) HKY).mono ?_; rintro e w' ⟨rfl, rfl⟩))
      exact bodyPost_ret (v := tkV 2 x k 0) (by simp [results, Tryd.results31, go_sem, tkV]) rfl ⟨rfl, (Below.refl _ _).alloc (Nat.le_refl _) _⟩
    | false =>
      have HR : Hid (tkV 1 x k 0 = r) := by
        show _ = _
        rw [← hr.out, H3.out, if_neg (by omega), if_neg (by rw [← HX1.out, hky]; decide)]
        show _ = tkV 1 (s.extract k (k + (q - k))) k 0
        rw [show k + (q - k) = q by omega, HX.out]
      have HKY := Lib.hid hky
      have := HR.out
      subst this
      clear hxs hky
      go_enter Tryd.func31, Tryd.ntmps31
      go_wp2_with (first | (go_at_call 24; refine (wordEnd_any s k q _ hs (by omega) HQ).mono ?_; rintro e w' ⟨rfl, rfl⟩) | (go_at_call 12; refine (isKey_to _ false _ (by exact HK.out.alloc _) HKY).mono ?_; rintro e w' ⟨rfl, rfl⟩))
      exact bodyPost_ret (v := tkV 1 x k 0) (by simp [results, Tryd.results31, go_sem, tkV]) rfl ⟨rfl, (Below.refl _ _).alloc (Nat.le_refl _) _⟩

theorem run_take_all (f : UInt8 → Bool) (l : List UInt8) : (l.take (runN f l)).all f = true := by
  induction l with
  | nil => rfl
  | cons c r ih =>
    cases h : f c with
    | true => rw [runN_pos r h, List.take_succ_cons, List.all_cons, h, ih]; rfl
    | false => rw [runN_zero r h]; rfl
theorem num_at (l : List UInt8) (k q : Nat) (hq : endAt digB l k = q) :
    numT (l.drop k) = (if afterB (l.drop q) then ⟨1, 0, 0⟩ else if parE ((l.drop k).take (q - k)) = 0 then ⟨0, 3, q - k⟩ else ⟨parE ((l.drop k).take (q - k)), 0, 0⟩) ∧ ((l.drop k).take (q - k)).all digB = true := by
  have h1 : runN digB (l.drop k) = q - k := by rw [← hq, endAt]; omega
  have h2 := run_take_all digB (l.drop k)
  have h3 : k ≤ q := by rw [← hq]; exact le_endAt _ _ _
  unfold numT
  rw [h1] at h2 ⊢
  rw [List.drop_drop, show k + (q - k) = q by omega]
  exact ⟨rfl, h2⟩
theorem spec_par (x : ByteArray) (h : 0 < x.size) (ha : x.data.toList.all digB = true) : (specP x).2 = (parE x.data.toList : Int) := by
  obtain ⟨r, hr⟩ := head_at x h
  have hd : digB x[0] = true := by
    rw [hr, List.all_cons, Bool.and_eq_true] at ha; exact ha.1
  have h45 : x[0] ≠ 45 := by intro e; rw [e] at hd; exact absurd hd (by decide)
  have ht := trim_pos x (Or.inr ⟨h, h45⟩)
  unfold parE
  by_cases hf : formB x = true
  · have hf2 := hf
    unfold formB at hf2
    rw [ht] at hf2
    rw [if_pos hf2, spec_pos hf (by rw [ht]; omega), ht]
    by_cases hv : val 0 x.data.toList < 9223372036854775808
    · rw [if_pos hv, if_pos hv]; rfl
    · rw [if_neg hv, if_neg hv]; rfl
  · have hf1 : formB x = false := by simpa using hf
    have hf2 := hf1
    unfold formB at hf2
    rw [ht] at hf2
    rw [hf2, spec_no hf1]; rfl
theorem par_le (l : List UInt8) : parE l = 0 ∨ parE l = 1 ∨ parE l = 2 := by
  unfold parE; split
  · split
    · exact Or.inl rfl
    · exact Or.inr (Or.inr rfl)
  · exact Or.inr (Or.inl rfl)
theorem after_drop (s : ByteArray) (q : Nat) (h : q < s.size) : afterB (s.data.toList.drop q) = letB s[q] := by
  rw [List.drop_eq_getElem_cons (by rw [len_size]; exact h)]; rfl
theorem after_end (s : ByteArray) (q : Nat) (h : s.size ≤ q) : afterB (s.data.toList.drop q) = false := by
  rw [List.drop_of_length_le (by rw [len_size]; exact h)]; rfl
theorem isDigit_to (c : UInt8) (b : Bool) (w : World) (h : Hid (digB c = b)) : Calls Tryd.prog 32 #[.int .u8 c.toNat] w fun e w' => e = .returned (.bool b) ∧ w = w' := by rw [← h.out]; exact isDigit_any c w
theorem isLetter_to (c : UInt8) (b : Bool) (w : World) (h : Hid (letB c = b)) : Calls Tryd.prog 23 #[.int .u8 c.toNat] w fun e w' => e = .returned (.bool b) ∧ w = w' := by rw [← h.out]; exact isLetter_any c w
abbrev RngIn (w : World) : Prop := ∃ tp p, w.var? Tryd.prog "strconv.ErrRange" = some #[.iface tp p]
theorem gRange : Tryd.prog.globalNamed "strconv.ErrRange" = some 4 := by kernel_rfl
theorem rng_below {w w' : World} {B : Nat} (h : RngIn w) (hb : Below B w w') (hB : 4 < B) : RngIn w' := by
  obtain ⟨tp, p, hv⟩ := h
  exact ⟨tp, p, var?_below hb gRange hB hv⟩

theorem slice_run (s : ByteArray) (k q : Nat) (h1 : k ≤ q) (h2 : q ≤ s.size) (w : World) : (Instr.slice 9 (.string s) (some (.int .i64 k)) (some (.int .i64 q)) none).run Tryd.prog w = .ok (.string (s.extract k q)) w := by
  rw [run_slice_string (P := Tryd.prog) w 9 s .i64 .i64 k q Tryd.underlying9 (by omega) (by omega) (by omega)]; rfl

theorem bcell {W w1 : World} (hb : Below W.heap.size W w1) : (∀ b o, b < W.heap.size → w1.cell? ⟨b, o, none⟩ = W.cell? ⟨b, o, none⟩) ∧ (∀ b o, b < W.heap.size → w1.frozen? ⟨b, o, none⟩ = W.frozen? ⟨b, o, none⟩) :=
  ⟨fun b o h => hb.cell (p := ⟨b, o, none⟩) h, fun b o h => hb.frozen (p := ⟨b, o, none⟩) h⟩

theorem below3 {w w1 : World} {o : Obj} (hb : Below (w.alloc o).heap.size (w.alloc o) w1) (u0 u1 u2 : Value) :
    Below w.heap.size w (((w1.setCell ⟨w.heap.size, 0, none⟩ u0).setCell ⟨w.heap.size, 1, none⟩ u1).setCell ⟨w.heap.size, 2, none⟩ u2) :=
  ((((((Below.refl _ w).alloc (Nat.le_refl _) o).trans (hb.mono (by simp))).setCell (Nat.le_refl _) u0).setCell (Nat.le_refl _) u1).setCell (Nat.le_refl _) u2)

set_option maxHeartbeats 400000 in
theorem numberAt_any (s : ByteArray) (k : Nat) (r : Value) (w : World) (hs : s.size ≤ 281474976710656) (hk : k < s.size) (h0 : Hid (digB s[k] = true)) (hG : RngIn w) (h4 : 4 < w.heap.size) (hr : Hid (tkOf s k (numT (s.data.toList.drop k)) = r)) :
    Calls Tryd.prog 33 #[.string s, .int .i64 k] w fun e w' => e = .returned r ∧ Below w.heap.size w w' := by
  obtain ⟨q, hq⟩ : ∃ q, endAt digB s.data.toList k = q := ⟨_, rfl⟩
  have h1 : k + 1 ≤ q := by rw [← hq, endS_step hk h0.out]; exact le_endAt _ _ _
  have h2 : q ≤ s.size := by rw [← hq, ← len_size]; exact endAt_le (by rw [len_size]; omega)
  obtain ⟨h3, hall⟩ := num_at s.data.toList k q hq
  have HQ := Lib.hid hq
  have H3 := Lib.hid h3
  have HG := Lib.hid hG
  clear hq h3 hG
  have hx : (s.extract k q).data.toList = (s.data.toList.drop k).take (q - k) := cut_extract s k q
  have hxs : (s.extract k q).size = q - k := by rw [← len_size, hx, List.length_take, List.length_drop, len_size]; omega
  have hX0 := slice_run s k q (by omega) h2
  obtain ⟨x, hX⟩ : ∃ x, s.extract k q = x := ⟨_, rfl⟩
  rw [hX] at hx hxs
  rw [← hx] at hall
  have hX2 : ∀ w, (Instr.slice 9 (.string s) (some (.int .i64 k)) (some (.int .i64 q)) none).run Tryd.prog w = .ok (.string x) w := fun w => by rw [← hX]; exact hX0 w
  clear hX0
  have hsp := spec_par x (by omega) hall
  obtain ⟨p, hp⟩ : ∃ p, specP x = p := ⟨_, rfl⟩
  rw [hp] at hsp
  have hpar := par_le x.data.toList
  obtain ⟨pe, hpe⟩ : ∃ pe, parE x.data.toList = pe := ⟨_, rfl⟩
  rw [hpe] at hsp hpar
  obtain ⟨p1, p2⟩ := p
  have hsp : p2 = (pe : Int) := hsp
  subst hsp
  have H3b : Hid (numT (s.data.toList.drop k) = if afterB (s.data.toList.drop q) then ⟨1, 0, 0⟩ else if pe = 0 then ⟨0, 3, q - k⟩ else ⟨pe, 0, 0⟩) := by
    show _ = _
    rw [H3.out, ← hx, hpe]
  have HP := Lib.hid hp
  have HX := Lib.hid hX
  have hxl : x.size ≤ 281474976710656 := by omega
  clear hX hx hpe hp H3 hall hxs
  go_enter Tryd.func33, Tryd.ntmps33
  go_wp2_with fail
  go_loop [6] (fun i => ∃ j : Nat, k ≤ j ∧ j ≤ s.size ∧ i = .int .i64 j ∧ Hid (endAt digB s.data.toList j = q)) (fun i => s.size - (intOf i).toNat)
  case atStart => exact ⟨k, Nat.le_refl _, by omega, rfl, HQ⟩
  case round =>
    obtain ⟨j, hj0, hj, rfl, HJ⟩ := hrel
    by_cases hlt : j < s.size
    · cases hd : digB s[j] with
      | true =>
        have HD := Lib.hid hd
        clear hd
        go_wp2_with (go_at_call 32; refine (isDigit_to _ true _ HD).mono ?_; rintro e w' ⟨rfl, rfl⟩)
        go_round
        case rel => exact ⟨j + 1, by omega, by omega, by go_num, (endS_step hlt HD.out).symm.trans HJ.out⟩
        case measure => simp [intOf]; omega
      | false =>
        have HD := Lib.hid hd
        have hjq : j = q := by rw [← HJ.out, endS_stop hlt hd]
        subst hjq
        clear hd HJ
        have ha := after_drop s j hlt
        cases hl : letB s[j] with
        | true =>
          have HL := Lib.hid hl
          have HR : Hid (tkV 0 ⟨#[]⟩ 0 1 = r) := by
            show _ = _
            rw [← hr.out, H3b.out, ha, hl]; rfl
          have := HR.out
          subst this
          clear hl ha
          go_wp2_with (first | (go_at_call 32; refine (isDigit_to _ false _ HD).mono ?_; rintro e w' ⟨rfl, rfl⟩) | (go_at_call 23; refine (isLetter_to _ true _ HL).mono ?_; rintro e w' ⟨rfl, rfl⟩))
          exact bodyPost_ret (v := tkV 0 ⟨#[]⟩ 0 1) (by simp [results, Tryd.results33, go_sem, tkV]) rfl ⟨rfl, (Below.refl _ _).alloc (Nat.le_refl _) _⟩
        | false =>
          have HL := Lib.hid hl
          have HR0 : Hid (tkOf s k (if pe = 0 then ⟨0, 3, j - k⟩ else ⟨pe, 0, 0⟩) = r) := by
            show _ = _
            rw [← hr.out, H3b.out, ha, hl]; rfl
          clear hl ha
          rcases hpar with rfl | rfl | rfl
          · have HR : Hid (tkV 3 x k 0 = r) := by
              show _ = _
              rw [← HR0.out, if_pos rfl]
              show _ = tkV 3 (s.extract k (k + (j - k))) k 0
              rw [show k + (j - k) = j by omega, HX.out]
            have := HR.out
            subst this
            go_wp2_with (first | (go_at_call 32; refine (isDigit_to _ false _ HD).mono ?_; rintro e w' ⟨rfl, rfl⟩) | (go_at_call 23; refine (isLetter_to _ false _ HL).mono ?_; rintro e w' ⟨rfl, rfl⟩))
            refine (parse_any x (p1, ((0 : Nat) : Int)) _ (rng_below HG.out ((Below.refl _ _).alloc (Nat.le_refl _) _) h4) hxl HP).mono ?_
            rintro e w1 ⟨rfl, hb⟩
            obtain ⟨hc, hf⟩ := bcell hb
            have hz : w.heap.size < w1.heap.size := by have := hb.size; simp at this; omega
            go_wp2_with fail
            exact bodyPost_ret (v := tkV 3 x k 0) (by simp [results, Tryd.results33, go_sem, tkV, hc]) rfl ⟨rfl, below3 hb _ _ _⟩
          · have HR : Hid (tkV 0 ⟨#[]⟩ 0 1 = r) := by
              show _ = _
              rw [← HR0.out, if_neg (by decide)]; rfl
            have := HR.out
            subst this
            go_wp2_with (first | (go_at_call 32; refine (isDigit_to _ false _ HD).mono ?_; rintro e w' ⟨rfl, rfl⟩) | (go_at_call 23; refine (isLetter_to _ false _ HL).mono ?_; rintro e w' ⟨rfl, rfl⟩))
            refine (parse_any x (p1, ((1 : Nat) : Int)) _ (rng_below HG.out ((Below.refl _ _).alloc (Nat.le_refl _) _) h4) hxl HP).mono ?_
            rintro e w1 ⟨rfl, hb⟩
            obtain ⟨hc, hf⟩ := bcell hb
            have hz : w.heap.size < w1.heap.size := by have := hb.size; simp at this; omega
            go_wp2_with fail
            exact bodyPost_ret (v := tkV 0 ⟨#[]⟩ 0 1) (by simp [results, Tryd.results33, go_sem, tkV, hc]) rfl ⟨rfl, below3 hb _ _ _⟩
          · have HR : Hid (tkV 0 ⟨#[]⟩ 0 2 = r) := by
              show _ = _
              rw [← HR0.out, if_neg (by decide)]; rfl
            have := HR.out
            subst this
            go_wp2_with (first | (go_at_call 32; refine (isDigit_to _ false _ HD).mono ?_; rintro e w' ⟨rfl, rfl⟩) | (go_at_call 23; refine (isLetter_to _ false _ HL).mono ?_; rintro e w' ⟨rfl, rfl⟩))
            refine (parse_any x (p1, ((2 : Nat) : Int)) _ (rng_below HG.out ((Below.refl _ _).alloc (Nat.le_refl _) _) h4) hxl HP).mono ?_
            rintro e w1 ⟨rfl, hb⟩
            obtain ⟨hc, hf⟩ := bcell hb
            have hz : w.heap.size < w1.heap.size := by have := hb.size; simp at this; omega
            go_wp2_with fail
            exact bodyPost_ret (v := tkV 0 ⟨#[]⟩ 0 2) (by simp [results, Tryd.results33, go_sem, tkV, hc]) rfl ⟨rfl, below3 hb _ _ _⟩
    · have hjq : j = q := by rw [← HJ.out, endAt_end (by rw [len_size]; omega)]
      subst hjq
      have ha := after_end s j (by omega)
      have HR0 : Hid (tkOf s k (if pe = 0 then ⟨0, 3, j - k⟩ else ⟨pe, 0, 0⟩) = r) := by
        show _ = _
        rw [← hr.out, H3b.out, ha]; rfl
      clear ha HJ
      rcases hpar with rfl | rfl | rfl
      · have HR : Hid (tkV 3 x k 0 = r) := by
          show _ = _
          rw [← HR0.out, if_pos rfl]
          show _ = tkV 3 (s.extract k (k + (j - k))) k 0
          rw [show k + (j - k) = j by omega, HX.out]
        have := HR.out
        subst this
        go_wp2_with fail
        refine (parse_any x (p1, ((0 : Nat) : Int)) _ (rng_below HG.out ((Below.refl _ _).alloc (Nat.le_refl _) _) h4) hxl HP).mono ?_
        rintro e w1 ⟨rfl, hb⟩
        obtain ⟨hc, hf⟩ := bcell hb
        have hz : w.heap.size < w1.heap.size := by have := hb.size; simp at this; omega
        go_wp2_with fail
        exact bodyPost_ret (v := tkV 3 x k 0) (by simp [results, Tryd.results33, go_sem, tkV, hc]) rfl ⟨rfl, below3 hb _ _ _⟩
      · have HR : Hid (tkV 0 ⟨#[]⟩ 0 1 = r) := by
          show _ = _
          rw [← HR0.out, if_neg (by decide)]; rfl
        have := HR.out
        subst this
        go_wp2_with fail
        refine (parse_any x (p1, ((1 : Nat) : Int)) _ (rng_below HG.out ((Below.refl _ _).alloc (Nat.le_refl _) _) h4) hxl HP).mono ?_
        rintro e w1 ⟨rfl, hb⟩
        obtain ⟨hc, hf⟩ := bcell hb
        have hz : w.heap.size < w1.heap.size := by have := hb.size; simp at this; omega
        go_wp2_with fail
        exact bodyPost_ret (v := tkV 0 ⟨#[]⟩ 0 1) (by simp [results, Tryd.results33, go_sem, tkV, hc]) rfl ⟨rfl, below3 hb _ _ _⟩
      · have HR : Hid (tkV 0 ⟨#[]⟩ 0 2 = r) := by
          show _ = _
          rw [← HR0.out, if_neg (by decide)]; rfl
        have := HR.out
        subst this
        go_wp2_with fail
        refine (parse_any x (p1, ((2 : Nat) : Int)) _ (rng_below HG.out ((Below.refl _ _).alloc (Nat.le_refl _) _) h4) hxl HP).mono ?_
        rintro e w1 ⟨rfl, hb⟩
        obtain ⟨hc, hf⟩ := bcell hb
        have hz : w.heap.size < w1.heap.size := by have := hb.size; simp at this; omega
        go_wp2_with fail
        exact bodyPost_ret (v := tkV 0 ⟨#[]⟩ 0 2) (by simp [results, Tryd.results33, go_sem, tkV, hc]) rfl ⟨rfl, below3 hb _ _ _⟩

end Go.Proofs.YteikheaanefgbaaDoor
