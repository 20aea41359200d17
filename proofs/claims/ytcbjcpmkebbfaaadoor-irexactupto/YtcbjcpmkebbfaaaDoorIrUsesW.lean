/-
  WALK: IrUses answers true at every function and place, given what awake, ir.Uses and ir.Line answer. Of what was there nothing has turned.
-/
import Derived.Test.YtcbjcpmkebbfaaaDoorIrGreat
namespace Go.Proofs.YtcbjcpmkebbfaaaDoor
open Go.RowKit

def usesTo (f : Fn) (n : Int) : Nat → List Int
  | 0 => []
  | k + 1 => usesTo f n k ++ if listedB f k && hasL ((f.ins[k]?.map Ins.args).getD []) n then [(k : Int)] else []
def usesL (f : Fn) (n : Int) : List Int := usesTo f n f.ins.length
theorem uses_len (f : Fn) (n : Int) : ∀ k, (usesTo f n k).length ≤ k
  | 0 => Nat.le_refl _
  | k + 1 => by
    have := uses_len f n k
    unfold usesTo
    rw [List.length_append]
    split <;> simp <;> omega
theorem uses_pre (f : Fn) (n : Int) {a b : Nat} (h : a ≤ b) : ∃ r, usesTo f n b = usesTo f n a ++ r := by
  induction h with
  | refl => exact ⟨[], by simp⟩
  | step _ ih => obtain ⟨r, hr⟩ := ih; exact ⟨_, by rw [usesTo, hr, List.append_assoc]⟩
theorem uses_at (f : Fn) (n : Int) {k : Nat} (hk : k < f.ins.length) (h : (listedB f k && hasL ((f.ins[k]?.map Ins.args).getD []) n) = true) : (usesL f n)[(usesTo f n k).length]? = some (k : Int) ∧ (usesTo f n (k + 1)).length = (usesTo f n k).length + 1 := by
  have e : usesTo f n (k + 1) = usesTo f n k ++ [(k : Int)] := by rw [usesTo, if_pos h]
  obtain ⟨r, hr⟩ := uses_pre f n (show k + 1 ≤ f.ins.length from hk)
  refine ⟨?_, by rw [e]; simp⟩
  unfold usesL
  rw [hr, e, List.append_assoc, List.getElem?_append_right (Nat.le_refl _)]
  simp
theorem uses_no (f : Fn) (n : Int) {k : Nat} (h : (listedB f k && hasL ((f.ins[k]?.map Ins.args).getD []) n) = false) : usesTo f n (k + 1) = usesTo f n k := by rw [usesTo, if_neg (by rw [h]; simp), List.append_nil]
def RowQ (l : List Int) (w : World) (e : Ending) (w' : World) : Prop := ∃ A c, e = .returned (.slice A l.length c) ∧ l.length ≤ c ∧ SL 1 intR w' A l ∧ Below w.heap.size w w'
structure IrC (G : World → Prop) (E : FE) (n : Int) : Prop where
  keep : ∀ {w w' : World}, G w → Below w.heap.size w w' → G w'
  aw : ∀ w, G w → Calls Tryd.prog 7 #[] w fun e w' => e = .returned (.bool true) ∧ Below w.heap.size w w'
  uses : wideB E.f = false → ∀ (w : World), FM E w → G w → Calls Tryd.prog 22 #[E.v, .int .i64 n] w (RowQ (usesL E.f n) w)
  line : wideB E.f = false → ∀ (w : World), FM E w → G w → Calls Tryd.prog 25 #[E.v, .int .i64 n] w fun e w' => e = .returned (.string (lineS E.f n)) ∧ Below w.heap.size w w'
def URel (w : World) (f : Fn) (n : Int) (m : Nat) (cv iv : Value) (wr : World) : Prop := ∃ k : Nat, k ≤ m ∧ iv = .int .i64 k ∧ cv = .int .i64 ((usesTo f n k).length : Nat) ∧ Below w.heap.size w wr

theorem keep6 {w w' w'' : World} {b : Nat} {v0 v1 v2 v3 v4 v5 : Value} (h : Below w.heap.size w w' ∧ w'.cell? ⟨b, 0, none⟩ = some v0 ∧ w'.cell? ⟨b, 1, none⟩ = some v1 ∧ w'.cell? ⟨b, 2, none⟩ = some v2 ∧ w'.cell? ⟨b, 3, none⟩ = some v3 ∧ w'.cell? ⟨b, 4, none⟩ = some v4 ∧ w'.cell? ⟨b, 5, none⟩ = some v5) (hb : Below w'.heap.size w' w'') :
    Below w.heap.size w w'' ∧ w''.cell? ⟨b, 0, none⟩ = some v0 ∧ w''.cell? ⟨b, 1, none⟩ = some v1 ∧ w''.cell? ⟨b, 2, none⟩ = some v2 ∧ w''.cell? ⟨b, 3, none⟩ = some v3 ∧ w''.cell? ⟨b, 4, none⟩ = some v4 ∧ w''.cell? ⟨b, 5, none⟩ = some v5 :=
  ⟨h.1.trans (hb.mono h.1.size), keepB h.2.1 hb, keepB h.2.2.1 hb, keepB h.2.2.2.1 hb, keepB h.2.2.2.2.1 hb, keepB h.2.2.2.2.2.1 hb, keepB h.2.2.2.2.2.2 hb⟩

set_option maxRecDepth 100000 in
set_option maxHeartbeats 1000000 in
theorem irUses_true (G : World → Prop) (E : FE) (n : Int) (K : IrC G E n) (w : World) (hM : FM E w) (hn : I64 n) (hG : G w) :
    Calls Tryd.prog 4 #[E.v, .int .i64 n] w fun e w' => e = .returned (.bool true) ∧ Below w.heap.size w w' := by
  have HB := Lib.hid (below_alloc w (.cells E.row 40))
  have HM := Lib.hid (hM.below HB.out (Nat.le_refl _))
  have HG := Lib.hid (K.keep hG HB.out)
  have KK := Lib.hid K
  have HN := Lib.hid hn
  have c0 : (w.alloc (.cells E.row 40)).cell? ⟨w.heap.size, 0, none⟩ = some (.string E.f.name) := cell_new w E.row 40 0
  have c1 : (w.alloc (.cells E.row 40)).cell? ⟨w.heap.size, 1, none⟩ = some (.slice E.pA E.f.params.length E.pc) := cell_new w E.row 40 1
  have c2 : (w.alloc (.cells E.row 40)).cell? ⟨w.heap.size, 2, none⟩ = some (.string E.f.res) := cell_new w E.row 40 2
  have c3 : (w.alloc (.cells E.row 40)).cell? ⟨w.heap.size, 3, none⟩ = some (.slice E.sA E.f.slots.length E.sc) := cell_new w E.row 40 3
  have c4 : (w.alloc (.cells E.row 40)).cell? ⟨w.heap.size, 4, none⟩ = some (.slice E.iA E.f.ins.length E.ic) := cell_new w E.row 40 4
  have c5 : (w.alloc (.cells E.row 40)).cell? ⟨w.heap.size, 5, none⟩ = some (.slice E.bA E.f.blocks.length E.bc) := cell_new w E.row 40 5
  clear hM hG hn K
  unfold FE.v
  go_enter Tryd.func4, Tryd.ntmps4
  go_wp2_with fail
  generalize w.alloc (.cells E.row 40) = w1 at *
  refine (KK.out.aw w1 HG.out).mono ?_
  rintro e w2 ⟨rfl, b2⟩
  have c0 := keepB c0 b2
  have c1 := keepB c1 b2
  have c2 := keepB c2 b2
  have c3 := keepB c3 b2
  have c4 := keepB c4 b2
  have c5 := keepB c5 b2
  have B2 := Lib.hid (HB.out.trans (b2.mono HB.out.size))
  have HM2 := Lib.hid (HM.out.drop b2)
  have HG2 := Lib.hid (KK.out.keep HG.out b2)
  clear b2 HM HG
  go_wp2_with fail
  obtain ⟨wd, hwd⟩ : ∃ b, wideB E.f = b := ⟨_, rfl⟩
  refine (lawWide_any E wd w2 HM2.out (Lib.hid hwd)).mono ?_
  rintro e w3 ⟨rfl, b3⟩
  have c0 := keepB c0 b3
  have c1 := keepB c1 b3
  have c2 := keepB c2 b3
  have c3 := keepB c3 b3
  have c4 := keepB c4 b3
  have c5 := keepB c5 b3
  have B3 := Lib.hid (B2.out.trans (b3.mono B2.out.size))
  have HM3 := Lib.hid (HM2.out.drop b3)
  have HG3 := Lib.hid (KK.out.keep HG2.out b3)
  clear b3 HM2 HG2
  cases wd with
  | true =>
    go_wp2_with fail
    go_ret
    exact ⟨rfl, B3.out⟩
  | false =>
  have HWD := Lib.hid hwd
  go_wp2_with fail
  refine (KK.out.uses HWD.out w3 HM3.out HG3.out).mono ?_
  rintro e w4 ⟨lA, lc, rfl, hlc, hl, b4⟩
  have c0 := keepB c0 b4
  have c1 := keepB c1 b4
  have c2 := keepB c2 b4
  have c3 := keepB c3 b4
  have c4 := keepB c4 b4
  have c5 := keepB c5 b4
  have B4 := Lib.hid (B3.out.trans (b4.mono B3.out.size))
  have HM4 := Lib.hid (HM3.out.drop b4)
  have HG4 := Lib.hid (KK.out.keep HG3.out b4)
  have HLS := Lib.hid hl
  have hib := HM4.out.il
  have hie := HM4.out.ile
  have hul := uses_len E.f n E.f.ins.length
  obtain ⟨um, hum⟩ : ∃ m, (usesL E.f n).length = m := ⟨_, rfl⟩
  have HUM := Lib.hid hum
  rw [hum] at hlc ⊢
  have hul2 : um ≤ E.f.ins.length := by rw [← hum]; exact hul
  clear b4 HM3 HG3 hl hum hwd hul
  go_wp2_with fail
  go_loopw [6, 7] (fun cv iv wr => URel w4 E.f n E.f.ins.length cv iv wr) (fun _ iv _ => E.f.ins.length - (intOf iv).toNat)
  case atStart => exact ⟨0, Nat.zero_le _, rfl, rfl, Below.refl _ _⟩
  case round =>
    obtain ⟨k, hk, rfl, rfl, hb⟩ := hrel
    have c0 := keepB c0 hb
    have c1 := keepB c1 hb
    have c2 := keepB c2 hb
    have c3 := keepB c3 hb
    have c4 := keepB c4 hb
    have c5 := keepB c5 hb
    have HBK := Lib.hid hb
    have HMK := Lib.hid (HM4.out.drop hb)
    clear hb
    obtain ⟨uc, huc⟩ : ∃ c, (usesTo E.f n k).length = c := ⟨_, rfl⟩
    have HUC := Lib.hid huc
    have hucb : uc ≤ E.f.ins.length := by rw [← huc]; exact Nat.le_trans (uses_len E.f n k) hk
    rw [huc]
    clear huc
    by_cases hlt : k < E.f.ins.length
    · have hlt2 : (k : Int) < (E.f.ins.length : Int) := by omega
      obtain ⟨x, hx⟩ : ∃ x, E.f.ins[k]? = some x := ⟨_, List.getElem?_eq_getElem hlt⟩
      go_wp2_with fail
      obtain ⟨lb, hlb⟩ : ∃ b, listedB E.f k = b := ⟨_, rfl⟩
      refine (refListed_any E k lb wr HMK.out (Lib.hid hlb)).mono ?_
      rintro e w5 ⟨rfl, b5⟩
      have c4' := keepB c4 b5
      have HB5 := Lib.hid (HBK.out.trans (b5.mono HBK.out.size))
      have HM5 := Lib.hid (HMK.out.drop b5)
      clear b5
      cases lb with
      | false =>
        have hno := uses_no E.f n (k := k) (by rw [hlb]; rfl)
        go_wp2_with fail
        go_roundw
        case rel => exact ⟨k + 1, by omega, by go_num, by rw [hno, HUC.out], HB5.out⟩
        case measure => simp [intOf]; omega
      | true =>
        obtain ⟨g, o, hA, -, hcs⟩ := HM5.out.I (by omega)
        obtain ⟨cs, ⟨v, rfl, -, -, -, -, ⟨aA, ac, rfl, l1, l2, hL⟩⟩, h0⟩ := hcs k x hx
        have e2 := h0 2 _ rfl
        rw [hA] at c4'
        go_wp2_with fail
        obtain ⟨hv, hhv⟩ : ∃ b, hasL x.args n = b := ⟨_, rfl⟩
        refine (refHas_any aA ac x.args.length x.args n hv w5 hL (Lib.hid rfl) l2 (Lib.hid hhv)).mono ?_
        rintro e w6 ⟨rfl, rfl⟩
        have hval : (listedB E.f k && hasL ((E.f.ins[k]?.map Ins.args).getD []) n) = hv := by rw [hlb, hx]; exact hhv
        cases hv with
        | false =>
          have hno := uses_no E.f n hval
          go_wp2_with fail
          rw [← hA]
          clear hA
          go_roundw
          case rel => exact ⟨k + 1, by omega, by go_num, by rw [hno, HUC.out], HB5.out⟩
          case measure => simp [intOf]; omega
        | true =>
          obtain ⟨hat, hup⟩ := uses_at E.f n hlt hval
          rw [HUC.out] at hat hup
          have hucl : uc < um := by rw [← HUM.out]; exact (List.getElem?_eq_some_iff.1 hat).1
          obtain ⟨lg, lo, hlA, -, hlcs⟩ := (HLS.out.below kp_int HB5.out (Nat.le_refl _)) (by rw [HUM.out]; omega)
          obtain ⟨cs2, ⟨rfl, -⟩, h2⟩ := hlcs uc _ hat
          have y0 := h2 0 _ rfl
          simp only [Nat.mul_one, Nat.add_zero] at y0
          have hlAA : lA = some ⟨lg, lo, none⟩ := hlA
          subst hlAA
          have hucl2 : ¬ (um : Int) ≤ (uc : Int) := by omega
          have hup2 := Lib.hid hup
          clear hval hat hup hlA hlcs h2 hcs h0 hL
          go_wp2_with fail
          rw [← hA]
          clear hA
          go_roundw
          case rel => exact ⟨k + 1, by omega, by go_num, by rw [hup2.out]; go_num, HB5.out⟩
          case measure => simp [intOf]; omega
    · have hke : k = E.f.ins.length := by omega
      have hlt2 : ¬ (k : Int) < (E.f.ins.length : Int) := by omega
      have hucm : uc = um := by rw [← HUC.out, ← HUM.out, hke]; rfl
      subst hucm
      have HGK := Lib.hid (KK.out.keep HG4.out HBK.out)
      obtain ⟨ls, hls⟩ : ∃ s, lineS E.f n = s := ⟨_, rfl⟩
      have HLSx := Lib.hid hls
      go_wp2_with fail
      go_region_held3 (fun w' => Below wr.heap.size wr w' ∧ w'.cell? ⟨w.heap.size, 0, none⟩ = some (.string E.f.name) ∧ w'.cell? ⟨w.heap.size, 1, none⟩ = some (.slice E.pA E.f.params.length E.pc) ∧ w'.cell? ⟨w.heap.size, 2, none⟩ = some (.string E.f.res) ∧ w'.cell? ⟨w.heap.size, 3, none⟩ = some (.slice E.sA E.f.slots.length E.sc) ∧ w'.cell? ⟨w.heap.size, 4, none⟩ = some (.slice E.iA E.f.ins.length E.ic) ∧ w'.cell? ⟨w.heap.size, 5, none⟩ = some (.slice E.bA E.f.blocks.length E.bc)) (first | exact ⟨(Below.refl _ _).drew, c0, c1, c2, c3, c4, c5⟩ | exact HK.out) (first | (go_at_call 25; have h0 := ‹Below wr.heap.size wr _ ∧ _›; refine (KK.out.line HWD.out _ (HMK.out.drop h0.1) (KK.out.keep HGK.out h0.1)).mono ?_; rintro e w6 ⟨rfl, b6⟩; rw [hls]; have HK := Lib.hid (keep6 h0 b6)) | (go_at_call 26; have h0 := ‹Below wr.heap.size wr _ ∧ _›; refine (refLine_any E n ls _ (HMK.out.drop h0.1) HN.out HLSx).mono ?_; rintro e w6 ⟨rfl, b6⟩; have HK := Lib.hid (keep6 h0 b6)))
      all_goals go_wp2_with fail
      all_goals go_ret
      all_goals exact ⟨rfl, (B4.out.trans (HBK.out.mono B4.out.size)).trans (HK.out.1.mono (Nat.le_trans B4.out.size HBK.out.size))⟩

end Go.Proofs.YtcbjcpmkebbfaaaDoor
