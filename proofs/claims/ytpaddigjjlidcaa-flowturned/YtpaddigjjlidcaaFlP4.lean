/-
  CONTRACT: flow's Next: where a block leads. Of what was there nothing has turned; the row is new.
-/
import Derived.Test.YtpaddigjjlidcaaFlP3
namespace Go.Proofs.Ytpaddigjjlidcaa
open Go.RowKit

def nxS (n : Nat) (a : List Int) (x : Int) : List Int := if (hasB n x && !hasJ a x) = true then a ++ [x] else a
/-- Those of a row that are blocks, each once. -/
def nxL (n : Nat) (l : List Int) : List Int := l.foldl (nxS n) []
theorem nx_up {n k : Nat} {l : List Int} {x : Int} (h : l[k]? = some x) : nxL n (l.take (k + 1)) = nxS n (nxL n (l.take k)) x := by
  obtain ⟨p, e⟩ := List.getElem?_eq_some_iff.1 h
  unfold nxL
  rw [List.take_succ_eq_append_getElem p, List.foldl_append, e]; rfl
theorem nx_len (n : Nat) : ∀ (l a : List Int), (l.foldl (nxS n) a).length ≤ a.length + l.length
  | [], a => by simp
  | x :: r, a => by
    have h := nx_len n r (nxS n a x)
    have h2 : (nxS n a x).length ≤ a.length + 1 := by unfold nxS; split <;> simp
    simp only [List.foldl_cons, List.length_cons]
    omega
theorem nx_in {n : Nat} : ∀ {l a : List Int} {x : Int}, x ∈ l.foldl (nxS n) a → x ∈ a ∨ (0 ≤ x ∧ x < n)
  | [], _, _, h => .inl h
  | y :: r, a, x, h => by
    rcases nx_in (l := r) (a := nxS n a y) h with h | h
    · unfold nxS at h
      split at h
      · rename_i q
        rcases List.mem_append.1 h with h | h
        · exact .inl h
        · obtain rfl := List.mem_singleton.1 h
          unfold hasB at q
          simp at q
          exact .inr ⟨q.1.1, q.1.2⟩
      · exact .inl h
    · exact .inr h
theorem name_next (bl : List Blk) (i : Int) : nxL bl.length (nameL bl i) = nextL bl i := by
  unfold nameL nextL
  split
  · rfl
  · cases bl[i.toNat]? with
    | none => rfl
    | some b =>
      show nxL bl.length (nameB b) = nextB bl.length b
      unfold nameB nextB nxL to0 to1
      by_cases j1 : b.jump = 1
      · rw [if_pos j1]
        by_cases h0 : 0 ≤ b.t0 <;> by_cases h1 : b.t0 < bl.length <;> simp [nxS, hasB, hasJ, j1, h0, h1]
      · rw [if_neg j1]
        by_cases j2 : b.jump = 2
        · rw [if_pos j2]
          by_cases e : b.t1 = b.t0
          · by_cases h0 : 0 ≤ b.t0 <;> by_cases h1 : b.t0 < bl.length <;> simp [nxS, hasB, hasJ, j1, j2, h0, h1, e]
          · have e' : ¬ b.t0 = b.t1 := fun h => e h.symm
            by_cases h0 : 0 ≤ b.t0 <;> by_cases h1 : b.t0 < bl.length <;> by_cases h2 : 0 ≤ b.t1 <;> by_cases h3 : b.t1 < bl.length <;> simp [nxS, hasB, hasJ, j1, j2, h0, h1, h2, h3, e, e']
        · rw [if_neg j2]
          simp [j1, j2]
def XRel (w0 : World) (n lm : Nat) (l : List Int) (s kv : Value) (wr : World) : Prop := ∃ k : Nat, k ≤ lm ∧ kv = .int .i64 k ∧ Hid (OI wr w0.heap.size s (nxL n (l.take k))) ∧ Below w0.heap.size w0 wr

set_option maxRecDepth 100000 in
set_option maxHeartbeats 1000000 in
theorem next_any (E : FE) (n : Int) (w : World) (hM : FM E w) (hn : I64 n) :
    Calls Try.prog 13 #[E.v, .int .i64 n] w (NQ (nextL E.f.blocks n) w) := by
  have c0 : (w.alloc (.cells E.row 26)).cell? ⟨w.heap.size, 0, none⟩ = some (.string E.f.name) := cell_new w E.row 26 0
  have c1 : (w.alloc (.cells E.row 26)).cell? ⟨w.heap.size, 1, none⟩ = some (.slice E.pA E.f.params.length E.pc) := cell_new w E.row 26 1
  have c2 : (w.alloc (.cells E.row 26)).cell? ⟨w.heap.size, 2, none⟩ = some (.string E.f.res) := cell_new w E.row 26 2
  have c3 : (w.alloc (.cells E.row 26)).cell? ⟨w.heap.size, 3, none⟩ = some (.slice E.sA E.f.slots.length E.sc) := cell_new w E.row 26 3
  have c4 : (w.alloc (.cells E.row 26)).cell? ⟨w.heap.size, 4, none⟩ = some (.slice E.iA E.f.ins.length E.ic) := cell_new w E.row 26 4
  have c5 : (w.alloc (.cells E.row 26)).cell? ⟨w.heap.size, 5, none⟩ = some (.slice E.bA E.f.blocks.length E.bc) := cell_new w E.row 26 5
  have C : Hid (_ ∧ _ ∧ _ ∧ _ ∧ _ ∧ _) := ⟨c0, c1, c2, c3, c4, c5⟩
  have HB := Lib.hid (below_alloc w (.cells E.row 26))
  have HM := Lib.hid (hM.below HB.out (Nat.le_refl _))
  have hsz : (w.alloc (.cells E.row 26)).heap.size = w.heap.size + 1 := by simp
  clear hM
  unfold FE.v
  go_enter Try.func13, Try.ntmps13
  go_wp2_with fail
  refine (named_any E n _ HM.out hn).mono ?_
  rintro e w2 ⟨A, cap, rfl, hcap, hS, hb2⟩
  clear c0 c1 c2 c3 c4 c5
  generalize w.alloc (.cells E.row 26) = w0 at *
  have HB2 := Lib.hid (HB.out.trans (hb2.mono HB.out.size))
  have HS2 := Lib.hid hS
  have hz2 : w.heap.size + 1 ≤ w2.heap.size := hsz ▸ hb2.size
  obtain ⟨l, hl⟩ : ∃ l, nameL E.f.blocks n = l := ⟨_, rfl⟩
  have HL := Lib.hid hl
  have hl2 : l.length ≤ 2 := hl ▸ name_two _ _
  rw [hl] at hcap HS2 ⊢
  obtain ⟨lm, hlm⟩ : ∃ m, l.length = m := ⟨_, rfl⟩
  have HLM := Lib.hid hlm
  rw [hlm] at hcap hl2 ⊢
  have HB0 := Lib.hid hb2
  have hsz0 : w0.heap.size = w.heap.size + 1 := hsz
  have HSZ := Lib.hid hsz0
  clear hS hb2 hl hlm hsz hsz0
  go_wp2_with fail
  go_loopw [5, 7, 12] (fun s _ kv wr => XRel w2 E.f.blocks.length lm l s kv wr) (fun _ _ kv _ => lm - (intOf kv).toNat)
  case atStart => exact ⟨0, Nat.zero_le _, rfl, OI.nil _ _, Below.refl _ _⟩
  case round =>
    obtain ⟨k, hk, rfl, HO, hb⟩ := hrel
    have HBR := Lib.hid hb
    have HB3 := Lib.hid (HB2.out.trans (hb.mono (by omega)))
    by_cases hlt : k < lm
    · obtain ⟨g, o, rfl, hg, hcs⟩ := HS2.out (by have := HLM.out; omega)
      obtain ⟨x, hx⟩ : ∃ x, l[k]? = some x := ⟨_, List.getElem?_eq_getElem (by have := HLM.out; omega)⟩
      obtain ⟨cs, ⟨rfl, hxi⟩, h0⟩ := hcs k x hx
      have d0 := (hb.cell (p := ⟨g, o + k * 1 + 0, none⟩) hg).trans (h0 0 _ rfl)
      simp only [Nat.mul_one, Nat.add_zero] at d0
      have HX := Lib.hid hx
      have HXI := Lib.hid hxi
      obtain ⟨c0, c1, c2, c3, c4, c5⟩ := C.out
      have hw0 : w.heap.size < w2.heap.size := by omega
      have k0 := (hb.cell (p := ⟨w.heap.size, 0, none⟩) hw0).trans (keepB c0 HB0.out)
      have k1 := (hb.cell (p := ⟨w.heap.size, 1, none⟩) hw0).trans (keepB c1 HB0.out)
      have k2 := (hb.cell (p := ⟨w.heap.size, 2, none⟩) hw0).trans (keepB c2 HB0.out)
      have k3 := (hb.cell (p := ⟨w.heap.size, 3, none⟩) hw0).trans (keepB c3 HB0.out)
      have k4 := (hb.cell (p := ⟨w.heap.size, 4, none⟩) hw0).trans (keepB c4 HB0.out)
      have k5 := (hb.cell (p := ⟨w.heap.size, 5, none⟩) hw0).trans (keepB c5 HB0.out)
      have HMR := Lib.hid (HM.out.below (HB0.out.trans (hb.mono (by have := HB0.out.size; omega))) (Nat.le_refl _))
      have hlk : (nxL E.f.blocks.length (l.take k)).length ≤ k := by
        have h := nx_len E.f.blocks.length (l.take k) []
        rw [List.length_take] at h
        simp only [List.length_nil] at h
        unfold nxL; omega
      have HBL := Lib.hid HM.out.bl
      clear hcs hx hxi h0 hb c0 c1 c2 c3 c4 c5 hw0
      go_wp2_with fail
      refine (has_any E x wr HMR.out HXI.out).mono ?_
      rintro e w4 ⟨rfl, hb4⟩
      have HO4 := Lib.hid (HO.out.keep hb4)
      have HB4 := Lib.hid (HBR.out.trans (hb4.mono HBR.out.size))
      have HU := Lib.hid (nx_up (n := E.f.blocks.length) HX.out)
      clear HMR k0 k1 k2 k3 k4 k5 hb4
      obtain ⟨q, hq⟩ : ∃ b, hasB E.f.blocks.length x = b := ⟨_, rfl⟩
      have HQ := Lib.hid hq
      rw [hq]
      clear hq
      cases q with
      | false =>
        have HT : Hid (OI w4 w2.heap.size u5 (nxL E.f.blocks.length (l.take (k + 1)))) := by
          show OI _ _ _ _
          rw [HU.out]
          unfold nxS
          rw [HQ.out, Bool.false_and, if_neg (by simp)]
          exact HO4.out
        go_wp2_with fail
        go_roundw
        case rel => exact ⟨k + 1, by omega, by go_num, HT, HB4.out⟩
        case measure => simp [intOf]; omega
      | true =>
        obtain ⟨A5, c5, rfl, hc5, hsl5⟩ := HO4.out.sl (fun y hy => by
          rcases nx_in hy with h | h
          · cases h
          · have := HBL.out; exact ⟨by omega, by omega⟩)
        go_wp2_with fail
        refine (contains_any A5 c5 _ _ x w4 hsl5 rfl (by omega)).mono ?_
        rintro e w5 ⟨rfl, hb5⟩
        have HO5 := Lib.hid (HO4.out.keep hb5)
        have HB5 := Lib.hid (HB4.out.trans (hb5.mono HB4.out.size))
        clear hsl5 hb5
        obtain ⟨q2, hq2⟩ : ∃ b, hasJ (nxL E.f.blocks.length (l.take k)) x = b := ⟨_, rfl⟩
        have HQ2 := Lib.hid hq2
        rw [hq2]
        clear hq2
        cases q2 with
        | true =>
          have HT : Hid (OI w5 w2.heap.size (.slice A5 (nxL E.f.blocks.length (l.take k)).length c5) (nxL E.f.blocks.length (l.take (k + 1)))) := by
            show OI _ _ _ _
            rw [HU.out]
            unfold nxS
            rw [HQ2.out, if_neg (by simp)]
            exact HO5.out
          go_wp2_with fail
          go_roundw
          case rel => exact ⟨k + 1, by omega, by go_num, HT, HB5.out⟩
          case measure => simp [intOf]; omega
        | false =>
          have HV : Hid (nxL E.f.blocks.length (l.take (k + 1)) = nxL E.f.blocks.length (l.take k) ++ [x]) := by
            show _ = _
            rw [HU.out]
            unfold nxS
            rw [HQ.out, HQ2.out]; rfl
          go_wp2_with (at_builtin; refine Hid.out ?_)
          refine Lib.hid ?_
          refine app_one rfl (.tmp 25) (.tmp 27) 34 rfl Try.underlying34 _ w2.heap.size _ _ x rfl HO5.out rfl (by omega) HB5.out.size ?_
          intro v6 w6 hO6 hS6 hz6 hw6
          have HT : Hid (OI w6 w2.heap.size v6 (nxL E.f.blocks.length (l.take (k + 1)))) := by
            show OI _ _ _ _
            rw [HV.out]; exact hO6
          have HB6 := Lib.hid (HB5.out.trans (hS6.below (fun i hi => (HO5.out.lo hi).1) HB5.out.size))
          clear hO6 hS6 hz6 hw6
          go_wp2_with fail
          go_roundw
          case rel => exact ⟨k + 1, by omega, by go_num, HT, HB6.out⟩
          case measure => simp [intOf]; omega
    · have HT : Hid (OI wr w.heap.size u5 (nextL E.f.blocks n)) := by
        have h := HO.out
        rw [List.take_of_length_le (by have := HLM.out; omega), ← HL.out, name_next] at h
        exact own_mono h (by omega)
      clear HO
      go_wp2_with fail
      go_ret
      exact ⟨_, rfl, HT.out, HB3.out⟩
end Go.Proofs.Ytpaddigjjlidcaa
