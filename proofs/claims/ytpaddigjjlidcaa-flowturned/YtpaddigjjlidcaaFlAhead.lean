/-
  CONTRACT: the reference's Ahead: who leads to a block. Of what was there nothing has turned; the row is new.
-/
import Derived.Test.YtpaddigjjlidcaaFlReach
namespace Go.Proofs.Ytpaddigjjlidcaa
open Go.RowKit

theorem own_mono {w : World} {base base' : Nat} {e : TypeId} {size : Nat} {v : Value} {n : Nat} {xs : List Value} (h : w.ownsRow base e size v n xs) (hb : base' ≤ base) : w.ownsRow base' e size v n xs := by
  refine ⟨h.1, ?_⟩
  rcases h.2 with h2 | ⟨g, cap, cur, h2, h3, h4⟩
  · exact .inl h2
  · exact .inr ⟨g, cap, cur, h2, Nat.le_trans hb h3, h4⟩
def hasJ (l : List Int) (n : Int) : Bool := l.any fun x => x == n
theorem hasJ_up {l : List Int} {k : Nat} {x n : Int} (h : l[k]? = some x) : hasJ (l.take (k + 1)) n = (hasJ (l.take k) n || x == n) := by
  obtain ⟨p, e⟩ := List.getElem?_eq_some_iff.1 h
  unfold hasJ
  rw [List.take_succ_eq_append_getElem p, List.any_append, e]
  simp
theorem next_nodup (l : List Blk) (i : Int) : (nextL l i).Nodup := by
  unfold nextL
  split
  · exact List.nodup_nil
  · split
    · exact List.nodup_nil
    · rename_i b _
      unfold nextB
      split <;> split <;> simp
      rename_i h1 h2
      simp [to1] at h2
      exact fun e => h2.1.1.2 e.symm
theorem hasJ_before {l : List Int} {k : Nat} {x : Int} (hn : l.Nodup) (h : l[k]? = some x) : hasJ (l.take k) x = false := by
  cases hh : hasJ (l.take k) x with
  | false => rfl
  | true =>
    obtain ⟨y, hy, e⟩ := List.any_eq_true.1 hh
    obtain rfl := eq_of_beq e
    obtain ⟨j, hj, hjy⟩ := List.mem_take_iff_getElem.1 hy
    obtain ⟨p, e2⟩ := List.getElem?_eq_some_iff.1 h
    have hjl : j < l.length := by omega
    have hjk : l[j] = l[k] := by rw [e2]; exact hjy
    exact absurd hjk (List.pairwise_iff_getElem.1 hn j k hjl p (by omega))
/-- Those of the first so many that lead to a block. -/
def aheadTo (bl : List Blk) (n : Int) : Nat → List Int
  | 0 => []
  | i + 1 => aheadTo bl n i ++ if hasJ (nextL bl i) n then [(i : Int)] else []
theorem ahead_len (bl : List Blk) (n : Int) : ∀ i, (aheadTo bl n i).length ≤ i
  | 0 => Nat.le_refl _
  | i + 1 => by
    unfold aheadTo
    have := ahead_len bl n i
    rw [List.length_append]
    split <;> simp <;> omega
def aheadL (bl : List Blk) (n : Int) : List Int := aheadTo bl n bl.length
def ARel (w0 : World) (b0 : Nat) (bl : List Blk) (n : Int) (m : Nat) (v iv : Value) (wr : World) : Prop :=
  ∃ i : Nat, i ≤ m ∧ iv = .int .i64 i ∧ Hid (OI wr b0 v (aheadTo bl n i)) ∧ Below b0 w0 wr ∧ b0 ≤ wr.heap.size
def ARel2 (w0 : World) (b0 : Nat) (a : List Int) (i : Nat) (n : Int) (nv : Value) (l : List Int) (lm : Nat) (v kv : Value) (wr : World) : Prop :=
  ∃ k : Nat, k ≤ lm ∧ kv = .int .i64 k ∧ Hid (OI wr b0 v (a ++ if hasJ (l.take k) n then [(i : Int)] else [])) ∧ Hid (OI wr b0 nv l) ∧ Hid (∀ q, Ow v q → ¬ Ow nv q) ∧ Below b0 w0 wr ∧ b0 ≤ wr.heap.size

set_option maxRecDepth 100000 in
set_option maxHeartbeats 1000000 in
theorem refAhead_any (E : FE) (n : Int) (w : World) (hM : FM E w) (hlim : Hid (E.f.blocks.length ≤ 1000000)) :
    Calls Try.prog 17 #[E.v, .int .i64 n] w (NQ (aheadL E.f.blocks n) w) := by
  obtain ⟨m, hm0⟩ : ∃ m, E.f.blocks.length = m := ⟨_, rfl⟩
  have hm := Lib.hid hm0
  have hmb : m ≤ 1000000 := by rw [← hm0]; exact hlim.out
  have HB := Lib.hid (below_alloc w (.cells E.row 26))
  have hsz : (w.alloc (.cells E.row 26)).heap.size = w.heap.size + 1 := by simp
  have b1 := below_alloc (w.alloc (.cells E.row 26)) (.cells #[] 3)
  have HM := Lib.hid (hM.below HB.out (Nat.le_refl _))
  have c0 : (w.alloc (.cells E.row 26)).cell? ⟨w.heap.size, 0, none⟩ = some (.string E.f.name) := cell_new w E.row 26 0
  have c1 : (w.alloc (.cells E.row 26)).cell? ⟨w.heap.size, 1, none⟩ = some (.slice E.pA E.f.params.length E.pc) := cell_new w E.row 26 1
  have c2 : (w.alloc (.cells E.row 26)).cell? ⟨w.heap.size, 2, none⟩ = some (.string E.f.res) := cell_new w E.row 26 2
  have c3 : (w.alloc (.cells E.row 26)).cell? ⟨w.heap.size, 3, none⟩ = some (.slice E.sA E.f.slots.length E.sc) := cell_new w E.row 26 3
  have c4 : (w.alloc (.cells E.row 26)).cell? ⟨w.heap.size, 4, none⟩ = some (.slice E.iA E.f.ins.length E.ic) := cell_new w E.row 26 4
  have c5 : (w.alloc (.cells E.row 26)).cell? ⟨w.heap.size, 5, none⟩ = some (.slice E.bA E.f.blocks.length E.bc) := cell_new w E.row 26 5
  have C : Hid (_ ∧ _ ∧ _ ∧ _ ∧ _ ∧ _) := ⟨c0, c1, c2, c3, c4, c5⟩
  have hO := OI.made (w.alloc (.cells E.row 26)) (w.heap.size + 1) (Nat.le_of_eq hsz.symm)
  have B1 := Lib.hid ((Below.refl (w.heap.size + 1) (w.alloc (.cells E.row 26))).alloc (Nat.le_of_eq hsz.symm) (.cells #[] 3))
  have hs2 : w.heap.size + 1 ≤ ((w.alloc (.cells E.row 26)).alloc (.cells #[] 3)).heap.size := by simp
  rw [hsz] at hO
  have HO := Lib.hid hO
  clear hM c0 c1 c2 c3 c4 c5 b1 hO hm0
  unfold FE.v
  go_enter Try.func17, Try.ntmps17
  go_wp2_with fail
  obtain ⟨b0, hb0⟩ : ∃ b, w.heap.size + 1 = b := ⟨_, rfl⟩
  rw [hb0] at HO B1 hs2 hsz ⊢
  have hgw : w.heap.size < b0 := by omega
  generalize (w.alloc (.cells E.row 26)).alloc (.cells #[] 3) = w1 at *
  generalize w.alloc (.cells E.row 26) = w0 at *
  go_loopw [5, 6] (fun v iv wr => ARel w0 b0 E.f.blocks n m v iv wr) (fun _ iv _ => m - (intOf iv).toNat)
  case atStart => exact ⟨0, Nat.zero_le _, rfl, HO, B1.out, hs2⟩
  case round =>
    obtain ⟨i, hi, rfl, HOI, hbi, hsi⟩ := hrel
    obtain ⟨c0, c1, c2, c3, c4, c5⟩ := C.out
    have k0 := (hbi.cell (p := ⟨w.heap.size, 0, none⟩) hgw).trans c0
    have k1 := (hbi.cell (p := ⟨w.heap.size, 1, none⟩) hgw).trans c1
    have k2 := (hbi.cell (p := ⟨w.heap.size, 2, none⟩) hgw).trans c2
    have k3 := (hbi.cell (p := ⟨w.heap.size, 3, none⟩) hgw).trans c3
    have k4 := (hbi.cell (p := ⟨w.heap.size, 4, none⟩) hgw).trans c4
    have k5 := (hbi.cell (p := ⟨w.heap.size, 5, none⟩) hgw).trans c5
    have HMR := Lib.hid (HM.out.below hbi (Nat.le_of_eq hsz))
    have HBI := Lib.hid hbi
    clear c0 c1 c2 c3 c4 c5 hbi
    by_cases hlti : i < m
    · have hlt2 : (i : Int) < (E.f.blocks.length : Int) := by rw [hm.out]; omega
      obtain ⟨a, ha⟩ : ∃ a, aheadTo E.f.blocks n i = a := ⟨_, rfl⟩
      have hal : a.length ≤ i := by rw [← ha]; exact ahead_len _ _ _
      have HA := Lib.hid ha
      rw [ha] at HOI
      clear ha
      go_wp2_with fail
      refine (refNext_any E i wr HMR.out (i64_of hlti (by omega))).mono ?_
      rintro e w6 ⟨nv, rfl, hO6, hb6⟩
      clear k0 k1 k2 k3 k4 k5 hlt2
      obtain ⟨l, hl⟩ : ∃ l, nextL E.f.blocks i = l := ⟨_, rfl⟩
      have HL := Lib.hid hl
      have HLI : Hid (∀ x ∈ l, I64 x) := by show ∀ x ∈ l, _; rw [← hl]; exact next_i64 (by rw [hm.out]; omega)
      obtain ⟨lm, hlm⟩ : ∃ n, l.length = n := ⟨_, rfl⟩
      have HLM := Lib.hid hlm
      have hl2 : lm ≤ 2 := by rw [← hlm, ← hl]; exact next_two _ _
      have HND : Hid l.Nodup := by show List.Nodup _; rw [← hl]; exact next_nodup _ _
      rw [hl] at hO6
      obtain ⟨A, c, rfl, hlc, -⟩ := hO6.sl HLI.out
      rw [hlm] at hO6 hlc ⊢
      have HD : Hid (∀ q, Ow u5 q → ¬ Ow (.slice A lm c) q) := fun q h1 h2 => by have := (HOI.out.lo h1).2; have := (hO6.lo h2).1; omega
      have HO6 := Lib.hid (own_mono hO6 hsi)
      have HOV : Hid (OI w6 b0 u5 (a ++ if hasJ (l.take 0) n then [(i : Int)] else [])) := by
        show OI _ _ _ _
        rw [show hasJ (l.take 0) n = false from rfl, if_neg (by simp), List.append_nil]
        exact HOI.out.keep hb6
      have B6 := Lib.hid (HBI.out.trans (hb6.mono hsi))
      have hs6 : b0 ≤ w6.heap.size := Nat.le_trans hsi hb6.size
      clear hO6 hb6 hl hlm HOI HBI HMR
      go_wp2_with fail
      go_loopw [5, 8] (fun v kv wr => ARel2 w0 b0 a i n (.slice A lm c) l lm v kv wr) (fun _ kv _ => lm - (intOf kv).toNat)
      case atStart => exact ⟨0, Nat.zero_le _, rfl, HOV, HO6, HD, B6.out, hs6⟩
      case round =>
        obtain ⟨k, hk, rfl, KV, KO, KD, hbk, hsk⟩ := hrel
        have HBK := Lib.hid hbk
        clear hbk
        by_cases hltk : k < lm
        · obtain ⟨A2, c2, hv2, -, hsl⟩ := KO.out.sl HLI.out
          obtain ⟨lb, lo, hA, hlb, hlc2⟩ := hsl (by have := HLM.out; omega)
          obtain ⟨x, hx⟩ : ∃ x, l[k]? = some x := ⟨_, List.getElem?_eq_getElem (by have := HLM.out; omega)⟩
          obtain ⟨cs, ⟨rfl, -⟩, h0⟩ := hlc2 k x hx
          have y0 := h0 0 _ rfl
          simp only [Nat.mul_one, Nat.add_zero] at y0
          have hvA : A = some ⟨lb, lo, none⟩ := by injection hv2 with e1 e2 e3; rw [e1, hA]
          have hup := hasJ_up (n := n) hx
          subst hvA
          by_cases he : x = n
          · subst he
            have hbf := hasJ_before HND.out hx
            have hv : a ++ (if hasJ (l.take (k + 1)) x then [(i : Int)] else []) = a ++ [(i : Int)] := by rw [hup]; simp
            have HV := Lib.hid hv
            have hvo : OI wr b0 u5 a := by have := KV.out; rwa [hbf, if_neg (by simp), List.append_nil] at this
            clear hv2 hsl hlc2 hx h0 hA hup hv hbf KV
            go_wp2_with (at_builtin; refine Hid.out ?_)
            refine Lib.hid ?_
            refine app_one rfl (.tmp 32) (.tmp 34) 34 rfl Try.underlying34 _ b0 u5 a i rfl hvo rfl (by omega) hsk ?_
            intro v2 w4 hO4 hS4 hz4 hw4
            have V4 : Hid (OI w4 b0 v2 (a ++ if hasJ (l.take (k + 1)) x then [(i : Int)] else [])) := by show OI _ _ _ _; rw [HV.out]; exact hO4
            have O4 := Lib.hid (KO.out.sv hS4 (fun q h1 h2 => KD.out q h2 h1))
            have D4 : Hid (∀ q, Ow v2 q → ¬ Ow (.slice (some ⟨lb, lo, none⟩) lm c) q) := fun q h1 h2 => by
              rcases hw4 q h1 with h | h
              · exact KD.out q h h2
              · have := (KO.out.lo h2).2; omega
            have B4 := Lib.hid (HBK.out.trans (hS4.below (fun q hq => (hvo.lo hq).1) hsk))
            have hs4 : b0 ≤ w4.heap.size := Nat.le_trans hsk hz4
            clear hO4 hS4 hz4 hw4 hvo y0
            go_wp2_with fail
            go_roundw
            case rel => exact ⟨k + 1, by omega, by go_num, V4, O4, D4, B4.out, hs4⟩
            case measure => simp [intOf] <;> omega
          · have hne : (x == n) = false := beq_false_of_ne he
            have HV : Hid (OI wr b0 u5 (a ++ if hasJ (l.take (k + 1)) n then [(i : Int)] else [])) := by show OI _ _ _ _; rw [hup, hne, Bool.or_false]; exact KV.out
            clear hv2 hsl hlc2 hx h0 hA hup
            go_wp2_with fail
            go_roundw
            case rel => exact ⟨k + 1, by omega, by go_num, HV, KO, KD, HBK.out, hsk⟩
            case measure => simp [intOf] <;> omega
        · have HV : Hid (OI wr b0 u5 (aheadTo E.f.blocks n (i + 1))) := by
            show OI _ _ _ _
            have := KV.out
            rw [List.take_of_length_le (by have := HLM.out; omega)] at this
            unfold aheadTo
            rw [HA.out, HL.out]; exact this
          go_wp2_with fail
          go_roundw
          case rel => exact ⟨i + 1, by omega, by go_num, HV, HBK.out, hsk⟩
          case measure => simp [intOf] <;> omega
    · have hlt2 : ¬ (i : Int) < (E.f.blocks.length : Int) := by rw [hm.out]; omega
      have him : i = m := by omega
      have HR : Hid (OI wr b0 u5 (aheadL E.f.blocks n)) := by show OI _ _ _ _; unfold aheadL; rw [hm.out, ← him]; exact HOI.out
      have HBR := Lib.hid (HB.out.trans (HBI.out.mono (Nat.le_of_lt hgw)))
      clear k0 k1 k2 k3 k4
      go_wp2_with fail
      go_ret
      exact ⟨_, rfl, own_mono HR.out (Nat.le_of_lt hgw), HBR.out⟩

end Go.Proofs.Ytpaddigjjlidcaa
