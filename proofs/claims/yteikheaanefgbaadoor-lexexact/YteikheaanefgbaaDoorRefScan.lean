/-
  CONTRACT: the reference's Scan at every text of at most 5000 bytes: its tokens, in new memory, or the place and the error of the first that is wrong; of what was there nothing has turned.
-/
import Derived.Test.YteikheaanefgbaaDoorRefScan2
import Derived.Test.YteikheaanefgbaaDoorRefScan3
import Derived.Test.YteikheaanefgbaaDoorRefScan4
namespace Go.Proofs.YteikheaanefgbaaDoor
open Go.RowKit

theorem round_tok (s : ByteArray) (r : R) (w wr : World) (f : Nat → Value) (v : Value) (p : Nat) (ts : List Tok) (hs : s.size ≤ 4096) (hts : ts.length ≤ p) (HRR : Hid (r = (sc s.data.toList p).pre ts)) (HOWN : Hid (wr.ownsRow w.heap.size 33 3 v ts.length (cellsT ts))) (hb : Below w.heap.size w wr) (hlt : p < s.size) : Round s w r f v p wr := by
  by_cases hbk : blkB s[p] = true
  · exact round_blank s r w wr f v p ts hs hts HRR HOWN hb hlt hbk
  · by_cases hcm : comAt s.data.toList p = true
    · exact round_com s r w wr f v p ts hs hts HRR HOWN hb hlt hbk hcm
    · cases hle : letB s[p] with
      | true => exact round_word s r w wr f v p ts hs hts HRR HOWN hb hlt hbk hcm hle
      | false =>
        cases hdi : digB s[p] with
        | true => exact round_num s r w wr f v p ts hs hts HRR HOWN hb hlt hbk hcm hle hdi
        | false => exact round_sign s r w wr f v p ts hs hts HRR HOWN hb hlt hbk hcm hle hdi

/-- Behind the loop. -/
def RX (s : ByteArray) (w : World) (r : R) (a : Act) (w' : World) : Prop := ∃ (f : Nat → Value) (v i : Value) (ts : List Tok), a = frm s w f v i ∧ r = .ok ts ∧ w'.ownsRow w.heap.size 33 3 v ts.length (cellsT ts) ∧ Below w.heap.size w w'
theorem rx_end {s : ByteArray} {w W : World} {r : R} {arr : Array Value} (v i : Value) (ts : List Tok) (ha : (⟨arr, []⟩ : Act) = frm s w (fun n => arr.getD n undef) v i) (hr : r = .ok ts) (ho : W.ownsRow w.heap.size 33 3 v ts.length (cellsT ts)) (hb : Below w.heap.size w W) : RX s w r ⟨arr, []⟩ W := ⟨_, v, i, ts, ha, hr, ho, hb⟩

set_option maxRecDepth 100000 in
set_option maxHeartbeats 4000000 in
theorem round_end (s : ByteArray) (r : R) (w wr : World) (f : Nat → Value) (v : Value) (p : Nat) (ts : List Tok) (HRR : Hid (r = (sc s.data.toList p).pre ts)) (HOWN : Hid (wr.ownsRow w.heap.size 33 3 v ts.length (cellsT ts))) (hb : Below w.heap.size w wr) (hge : ¬ p < s.size) (Q0 : Exit → Act → World → Prop) (K : Act → World → Prop) (hexit : ∀ a' w'', RX s w r a' w'' → Q0 (.exit 0) a' w'') :
    Code.wp Tryd.prog ((Tryd.f9.body.bind firstLoop).getD .skip) (Exit.then K Q0) (frm s w f v (.int .i64 p)) wr := by
  have HX := Lib.hid hexit
  have HR2 : Hid (r = R.ok ts) := by
    show _ = _
    rw [HRR.out, scS_end (by omega)]; simp [R.pre]
  clear hexit HRR
  conv => arg 2; whnf
  unfold frm
  go_wp2_with fail
  refine HX.out _ _ ?_
  exact rx_end v (.int .i64 (p : Int)) ts (by kernel_rfl) HR2.out HOWN.out hb

theorem rmu_frm (s : ByteArray) (w : World) (f : Nat → Value) (v : Value) (p : Nat) (wr : World) : Rmu s (frm s w f v (.int .i64 p)) wr = s.size - p := by
  show s.size - (intOf (Value.int .i64 p)).toNat = s.size - p
  simp only [intOf, Int.toNat_natCast]

theorem rloop (s : ByteArray) (r : R) (w wr : World) (f : Nat → Value) (v : Value) (p : Nat) (ts : List Tok) (hs : s.size ≤ 4096) (hts : ts.length ≤ p) (HRR : Hid (r = (sc s.data.toList p).pre ts)) (HOWN : Hid (wr.ownsRow w.heap.size 33 3 v ts.length (cellsT ts))) (hb : Below w.heap.size w wr) (hp : p ≤ s.size) (Q0 : Exit → Act → World → Prop) (hret : ∀ a' w'', bodyPost Tryd.prog Tryd.f9 (RScanQ r w) .ret a' w'' → Q0 .ret a' w'') (hexit : ∀ a' w'', RX s w r a' w'' → Q0 (.exit 0) a' w'') :
    Code.wp Tryd.prog (.loop ((Tryd.f9.body.bind firstLoop).getD .skip)) Q0 (frm s w f v (.int .i64 p)) wr := by
  refine wp_loop (RI s w r) (Rmu s) ⟨f, v, _, ⟨ts, p, hp, hts, rfl, HRR, HOWN, hb⟩, rfl⟩ ?_
  rintro a w' ⟨f', v', i', ⟨ts', p', hp', hts', rfl, HRR', HOWN', hb'⟩, rfl⟩
  rw [rmu_frm]
  by_cases hlt : p' < s.size
  · exact round_tok s r w w' f' v' p' ts' hs hts' HRR' HOWN' hb' hlt Q0 hret
  · exact round_end s r w w' f' v' p' ts' HRR' HOWN' hb' hlt Q0 _ hexit

def f0 : Nat → Value := fun n => if n = 2 then .slice none 0 0 else if n = 3 then .int .i64 0 else if n = 4 then .int .i64 0 else undef

set_option maxRecDepth 100000 in
set_option maxHeartbeats 1000000 in
theorem refScan_any (s : ByteArray) (r : R) (w : World) (hs : s.size ≤ 5000) (hr : Hid (scanR s.data.toList = r)) : Calls Tryd.prog 9 #[.string s] w (RScanQ r w) := by
  by_cases hl : 4096 < s.size
  · have hi : (4096 : Int) < (s.size : Int) := by omega
    have HQ : Hid (R.bad 4096 4 = r) := by
      show _ = _
      rw [← hr.out, scanR, len_size, if_pos hl]
    have := HQ.out
    subst this
    go_enter Tryd.func9, Tryd.ntmps9
    go_wp2_with fail
    refine bodyPost_ret (v := .tuple #[.slice none 0 0, .int .i64 4096, .int .i64 4]) (by simp [results, Tryd.results9, go_sem]) rfl ⟨Below.refl _ _, rfl⟩
  · have hi : ¬ (4096 : Int) < (s.size : Int) := by omega
    have HR : Hid (r = (sc s.data.toList 0).pre []) := by
      show _ = _
      rw [← hr.out, scanR, len_size, if_neg hl, R.pre_nil]
    clear hr
    go_enter Tryd.func9, Tryd.ntmps9
    go_wp2_with fail
    refine rloop s r w _ f0 (.slice (some ⟨w.heap.size, 0, none⟩) 0 0) 0 [] (by omega) (Nat.le_refl _) HR (World.ownsRow_made w #[] 0 (Nat.le_refl _) (Nat.zero_le _) rfl) ((Below.refl _ _).alloc (Nat.le_refl _) _) (Nat.zero_le _) _ (fun a' w'' h => h) ?_
    rintro a' w'' ⟨f, v, i, ts, rfl, hok, ho, hb⟩
    subst hok
    rename_i K hK
    refine hK _ _ ?_
    unfold frm
    go_wp2_with fail
    refine bodyPost_ret (v := .tuple #[v, .int .i64 0, .int .i64 0]) (by simp [results, Tryd.results9, go_sem]) rfl ⟨hb, v, rfl, ho⟩

end Go.Proofs.YteikheaanefgbaaDoor
