/-
  CONTRACTS: flow's Reached and standings: of each block whether it is reached, and where it stands. Of what was there nothing has turned; the rows are new.
-/
import Derived.Test.YtpaddigjjlidcaaFlAh
import Derived.Test.YtpaddigjjlidcaaFlWh
namespace Go.Proofs.Ytpaddigjjlidcaa
open Go.RowKit

/-- Who stands among the first k is flagged. -/
def SetI (m : Nat) (o : List Int) (k : Nat) (fl : List Bool) : Prop := fl.length = m ∧ ∀ i : Nat, fl[i]? = some true ↔ (i < m ∧ (i : Int) ∈ o.take k)
theorem SetI.start (m : Nat) (o : List Int) : SetI m o 0 (List.replicate m false) := ⟨List.length_replicate, fun i => by
  rw [List.getElem?_replicate]
  constructor
  · intro h; split at h <;> simp at h
  · intro h; simp at h⟩
theorem SetI.up {m : Nat} {o : List Int} {k j : Nat} {fl : List Bool} (h : SetI m o k fl) (hx : o[k]? = some (j : Int)) (hj : j < m) : SetI m o (k + 1) (fl.set j true) := by
  refine ⟨by rw [List.length_set]; exact h.1, fun i => ?_⟩
  rw [List.take_add_one, hx, Option.toList_some, List.mem_append, List.mem_singleton]
  by_cases e : i = j
  · subst e
    have := set_at (fl := fl) (q := i) (by rw [h.1]; exact hj)
    rw [this]
    exact ⟨fun _ => ⟨hj, .inr rfl⟩, fun _ => rfl⟩
  · constructor
    · intro q
      rcases of_set q with q | q
      · exact absurd q e
      · have := (h.2 i).1 q
        exact ⟨this.1, .inl this.2⟩
    · rintro ⟨q1, q2 | q2⟩
      · exact set_true ((h.2 i).2 ⟨q1, q2⟩)
      · exact absurd (by omega) e
theorem SetI.done {bl : List Blk} {m : Nat} (hm : bl.length = m) {o : List Int} {k : Nat} {fl : List Bool} (h : SetI m o k fl) (hk : o.length ≤ k) (hO : OrdR bl o) : Flags (gr bl) bl.length fl := by
  by_cases h0 : 0 < bl.length
  · refine ⟨by rw [hm]; exact h.1, fun i => (h.2 i).trans ?_⟩
    rw [List.take_of_length_le hk]
    have := (ord_facts hO h0).rc i
    rw [hm] at this ⊢
    constructor
    · intro q; exact this.1 q.2
    · intro q; exact ⟨q.2, this.2 q⟩
  · have e : m = 0 := by omega
    subst e
    have : fl = [] := List.length_eq_zero_iff.1 h.1
    rw [this, hm]
    exact flags_nil
def RcRel (w0 : World) (g m : Nat) (v : Value) (o : List Int) (n : Nat) (kv : Value) (wr : World) : Prop :=
  ∃ k : Nat, k ≤ n ∧ kv = .int .i64 k ∧ (∃ fl, Hid (SetI m o k fl) ∧ Hid (Fl wr g m fl)) ∧ Hid (LV (fun b => b ≤ g) wr v o) ∧ Below g w0 wr
set_option maxRecDepth 100000 in
set_option maxHeartbeats 1000000 in
theorem reached_any (E : FE) (m : Nat) (w : World) (hM : FM E w) (hm : Hid (E.f.blocks.length = m)) (hlim : Hid (m ≤ 1000000)) :
    Calls Try.prog 10 #[E.v] w fun e w' => ∃ fl, Flags (gr E.f.blocks) E.f.blocks.length fl ∧ RQ 1 boolR fl w e w' := by
  obtain ⟨i4, hi4, hy0, hy1, hy2⟩ := info_parts bool_info
  have HI4 := Lib.hid hi4
  have HY0 := Lib.hid hy0
  have HY1 := Lib.hid hy1
  have hmb := hlim.out
  have HB2 : Hid (i4.bytes * m ≤ 281474976710656) := by show _ ≤ _; rw [hy2]; omega
  have HB3 : Hid (m ≤ maxLen) := by show _ ≤ _; simp only [maxLen]; omega
  have HB := Lib.hid (below_alloc w (.cells E.row 26))
  have HM := Lib.hid (hM.below HB.out (Nat.le_refl _))
  have c0 : (w.alloc (.cells E.row 26)).cell? ⟨w.heap.size, 0, none⟩ = some (.string E.f.name) := cell_new w E.row 26 0
  have c1 : (w.alloc (.cells E.row 26)).cell? ⟨w.heap.size, 1, none⟩ = some (.slice E.pA E.f.params.length E.pc) := cell_new w E.row 26 1
  have c2 : (w.alloc (.cells E.row 26)).cell? ⟨w.heap.size, 2, none⟩ = some (.string E.f.res) := cell_new w E.row 26 2
  have c3 : (w.alloc (.cells E.row 26)).cell? ⟨w.heap.size, 3, none⟩ = some (.slice E.sA E.f.slots.length E.sc) := cell_new w E.row 26 3
  have c4 : (w.alloc (.cells E.row 26)).cell? ⟨w.heap.size, 4, none⟩ = some (.slice E.iA E.f.ins.length E.ic) := cell_new w E.row 26 4
  have c5 : (w.alloc (.cells E.row 26)).cell? ⟨w.heap.size, 5, none⟩ = some (.slice E.bA E.f.blocks.length E.bc) := cell_new w E.row 26 5
  have C : Hid (_ ∧ _ ∧ _ ∧ _ ∧ _ ∧ _) := ⟨c0, c1, c2, c3, c4, c5⟩
  have hsz : (w.alloc (.cells E.row 26)).heap.size = w.heap.size + 1 := by simp
  have c5m := c5
  rw [hm.out] at c5m
  clear hM hi4 hy0 hy1 hy2 c0 c1 c2 c3 c4 c5
  unfold FE.v
  go_enter Try.func10, Try.ntmps10
  go_wp2_with (refine wpList_make_full _ rfl (.tmp 8) (.tmp 8) 31 rfl (w.heap.size + 1) 4 i4 _ 1 Try.underlying31 HI4.out HY0.out HY1.out .i64 .i64 m m m rfl rfl rfl rfl HB2.out HB3.out (Nat.le_of_eq hsz.symm) ?_; intro w1 hown1 hg1; refine Hid.out ?_)
  have F1 : Hid (Fl w1 (w.heap.size + 1) m (List.replicate m false)) := by
    refine ⟨List.length_replicate, ?_⟩
    have := hown1
    rw [hsz] at this
    rw [Nat.mul_one, show (Value.bool false).cells = #[.bool false] from rfl, toList_madeCells_one] at this
    unfold boolsOf
    rw [List.map_replicate]; exact this
  have B1 := Lib.hid ((Below.refl (w.heap.size + 1) (w.alloc (.cells E.row 26))).grown hg1 (Nat.le_of_eq hsz.symm) (fun k hk => by cases hk))
  clear hown1 hg1 HB2 HB3 HI4 HY0 HY1
  obtain ⟨g, hg⟩ : ∃ g, w.heap.size + 1 = g := ⟨_, rfl⟩
  rw [hg] at F1 B1 hsz ⊢
  have hgw : w.heap.size < g := by omega
  generalize w.alloc (.cells E.row 26) = w0 at *
  obtain ⟨c0, c1, c2, c3, c4, c5⟩ := C.out
  have k0 := (B1.out.cell (p := ⟨w.heap.size, 0, none⟩) hgw).trans c0
  have k1 := (B1.out.cell (p := ⟨w.heap.size, 1, none⟩) hgw).trans c1
  have k2 := (B1.out.cell (p := ⟨w.heap.size, 2, none⟩) hgw).trans c2
  have k3 := (B1.out.cell (p := ⟨w.heap.size, 3, none⟩) hgw).trans c3
  have k4 := (B1.out.cell (p := ⟨w.heap.size, 4, none⟩) hgw).trans c4
  have k5 := (B1.out.cell (p := ⟨w.heap.size, 5, none⟩) hgw).trans c5
  have HMR := Lib.hid (HM.out.below B1.out (Nat.le_of_eq hsz))
  clear c0 c1 c2 c3 c4 c5
  have hgs := F1.out.lt
  refine Lib.hid ?_
  go_wp2_with fail
  refine (order_lv E m w1 HMR.out hm hlim).mono ?_
  rintro e w2 ⟨o, v, hO, rfl, hV, hb2⟩
  have F2 := Lib.hid (F1.out.below hb2)
  have B2 := Lib.hid (B1.out.trans (hb2.mono (by omega)))
  have V2 : Hid (LV (fun b => b ≤ g) w2 v o) := hV.sv (P := fun _ => False) (Sv.refl _ _) (fun _ h => h.elim) (fun b _ h => by omega)
  have HO := Lib.hid hO
  have HIN : Hid (∀ x ∈ o, 0 ≤ x ∧ x < m) := by show ∀ x ∈ o, 0 ≤ x ∧ x < m; rw [← hm.out]; exact ord_in hO
  obtain ⟨A, c, hv, -⟩ := hV
  obtain ⟨n, hn⟩ : ∃ n, o.length = n := ⟨_, rfl⟩
  rw [hn] at hv
  subst hv
  have HN := Lib.hid hn
  have hnm : n ≤ m := by rw [← hn, ← hm.out]; exact ord_len hO
  clear hn hO hb2 k0 k1 k2 k3 k4 k5 HMR F1 B1
  go_wp2_with fail
  go_loopw [13] (fun kv wr => RcRel w0 g m (.slice A n c) o n kv wr) (fun kv _ => n - (intOf kv).toNat)
  case atStart => exact ⟨0, Nat.zero_le _, rfl, ⟨_, SetI.start m o, F2⟩, V2, B2.out⟩
  case round =>
    obtain ⟨k, hk, rfl, ⟨fl, RS, RF⟩, RV, hbr⟩ := hrel
    have HBR := Lib.hid hbr
    have hgs2 := RF.out.lt
    clear hbr
    by_cases hlt : k < n
    · obtain ⟨A2, c2, hvv, -, hlc⟩ := id RV.out
      have HLC := Lib.hid hlc
      clear hlc
      injection hvv with e1 e2 e3
      subst e1 e3
      clear e2
      obtain ⟨lb, lo, rfl, hlb, hne, hcs⟩ := HLC.out (by have := HN.out; omega)
      obtain ⟨x, hx⟩ : ∃ x, o[k]? = some x := ⟨_, List.getElem?_eq_getElem (by have := HN.out; omega)⟩
      have hxin := HIN.out x (List.mem_of_getElem? hx)
      obtain ⟨j, rfl⟩ : ∃ j : Nat, x = j := ⟨x.toNat, by omega⟩
      have x0 := hcs k _ hx
      have hjm : j < m := by omega
      obtain ⟨bv, hfj⟩ : ∃ b, fl[j]? = some b := ⟨_, List.getElem?_eq_getElem (by have := RS.out.1; omega)⟩
      have g0 := RF.out.cell hfj
      have gz := RF.out.2.frozenAt j
      have HS := Lib.hid (RS.out.up hx hjm)
      have F3 := Lib.hid (RF.out.set j)
      have V3 := Lib.hid (RV.out.sv (N' := fun b => b ≤ g) ((Sv.refl (fun k => k = g) wr).setCell (p := ⟨g, j, none⟩) (.inl rfl) (.bool true)) (fun b h => by omega) (fun _ _ h => h))
      have B3 := Lib.hid (HBR.out.setCell (p := ⟨g, j, none⟩) (Nat.le_refl g) (.bool true))
      clear hcs hx hxin HLC hne hfj
      go_wp2_with fail
      go_roundw
      case rel => exact ⟨k + 1, by omega, by go_num, ⟨_, HS, F3⟩, V3, B3.out⟩
      case measure => simp [intOf]; omega
    · have HFL := Lib.hid (RS.out.done hm.out (by have := HN.out; omega) HO.out)
      have HW := Lib.hid (HB.out.trans (HBR.out.mono (Nat.le_of_lt hgw)))
      have hlen : fl.length = m := RS.out.1
      have HS : Hid (SL 1 boolR wr (some ⟨g, 0, none⟩) fl) := fun _ => ⟨g, 0, rfl, hgs2, fun i x hx => ⟨[.bool x], rfl, fun j v hj => by
        cases j with
        | succ j => simp at hj
        | zero =>
          obtain rfl := Option.some.inj hj
          rw [Nat.mul_one, Nat.add_zero, Nat.zero_add]
          exact RF.out.cell hx⟩⟩
      have HLE := Lib.hid hlen
      clear hlen RS RF RV
      go_wp2_with fail
      go_ret
      exact ⟨fl, HFL.out, some ⟨g, 0, none⟩, m, by rw [HLE.out]; rfl, Nat.le_of_eq HLE.out, HS.out, HW.out⟩
def M1Rel (w0 : World) (g m : Nat) (kv : Value) (wr : World) : Prop := ∃ k : Nat, k ≤ m ∧ kv = .int .i64 k ∧ Hid (Nm wr g m (mapR m (m1 k))) ∧ Below g w0 wr
def StRel (w0 : World) (g m : Nat) (v : Value) (o : List Int) (n : Nat) (kv : Value) (wr : World) : Prop :=
  ∃ k : Nat, k ≤ n ∧ kv = .int .i64 k ∧ Hid (Nm wr g m (mapR m (atN o k))) ∧ Hid (LV (fun b => b ≤ g) wr v o) ∧ Below g w0 wr
theorem ord_nodup {bl : List Blk} {o : List Int} (h : OrdR bl o) : o.Nodup := by
  by_cases h0 : 0 < bl.length
  · exact (ord_facts h h0).nd
  · unfold OrdR at h
    rw [if_pos (by omega)] at h
    rw [h]; exact List.nodup_nil
set_option maxRecDepth 100000 in
set_option maxHeartbeats 1000000 in
theorem standings_any (E : FE) (m : Nat) (w : World) (hM : FM E w) (hm : Hid (E.f.blocks.length = m)) (hlim : Hid (m ≤ 1000000)) :
    Calls Try.prog 25 #[E.v] w fun e w' => ∃ o g, OrdR E.f.blocks o ∧ e = .returned (.slice (some ⟨g, 0, none⟩) m m) ∧ Nm w' g m (mapR m (plN o)) ∧ w.heap.size ≤ g ∧ Below w.heap.size w w' := by
  obtain ⟨i4, hi4, hy0, hy1, hy2⟩ := info_parts int_info
  have HI4 := Lib.hid hi4
  have HY0 := Lib.hid hy0
  have HY1 := Lib.hid hy1
  have hmb := hlim.out
  have HB2 : Hid (i4.bytes * m ≤ 281474976710656) := by show _ ≤ _; rw [hy2]; omega
  have HB3 : Hid (m ≤ maxLen) := by show _ ≤ _; simp only [maxLen]; omega
  have HB := Lib.hid (below_alloc w (.cells E.row 26))
  have HM := Lib.hid (hM.below HB.out (Nat.le_refl _))
  have c0 : (w.alloc (.cells E.row 26)).cell? ⟨w.heap.size, 0, none⟩ = some (.string E.f.name) := cell_new w E.row 26 0
  have c1 : (w.alloc (.cells E.row 26)).cell? ⟨w.heap.size, 1, none⟩ = some (.slice E.pA E.f.params.length E.pc) := cell_new w E.row 26 1
  have c2 : (w.alloc (.cells E.row 26)).cell? ⟨w.heap.size, 2, none⟩ = some (.string E.f.res) := cell_new w E.row 26 2
  have c3 : (w.alloc (.cells E.row 26)).cell? ⟨w.heap.size, 3, none⟩ = some (.slice E.sA E.f.slots.length E.sc) := cell_new w E.row 26 3
  have c4 : (w.alloc (.cells E.row 26)).cell? ⟨w.heap.size, 4, none⟩ = some (.slice E.iA E.f.ins.length E.ic) := cell_new w E.row 26 4
  have c5 : (w.alloc (.cells E.row 26)).cell? ⟨w.heap.size, 5, none⟩ = some (.slice E.bA E.f.blocks.length E.bc) := cell_new w E.row 26 5
  have C : Hid (_ ∧ _ ∧ _ ∧ _ ∧ _ ∧ _) := ⟨c0, c1, c2, c3, c4, c5⟩
  have hsz : (w.alloc (.cells E.row 26)).heap.size = w.heap.size + 1 := by simp
  have c5m := c5
  rw [hm.out] at c5m
  clear hM hi4 hy0 hy1 hy2 c0 c1 c2 c3 c4 c5
  unfold FE.v
  go_enter Try.func25, Try.ntmps25
  go_wp2_with (refine wpList_make_full _ rfl (.tmp 9) (.tmp 9) 34 rfl (w.heap.size + 1) 3 i4 _ 1 Try.underlying34 HI4.out HY0.out HY1.out .i64 .i64 m m m rfl rfl rfl rfl HB2.out HB3.out (Nat.le_of_eq hsz.symm) ?_; intro w1 hown1 hg1; refine Hid.out ?_)
  have F1 : Hid (Nm w1 (w.heap.size + 1) m (mapR m (m1 0))) := by
    refine ⟨mapR_len _ _, ?_⟩
    have := hown1
    rw [hsz] at this
    rw [Nat.mul_one, show (Value.int .i64 0).cells = #[.int .i64 0] from rfl, toList_madeCells_one] at this
    rw [m1_start]
    unfold intsV
    rw [List.map_replicate]; exact this
  have B1 := Lib.hid ((Below.refl (w.heap.size + 1) (w.alloc (.cells E.row 26))).grown hg1 (Nat.le_of_eq hsz.symm) (fun k hk => by cases hk))
  clear hown1 hg1 HB2 HB3 HI4 HY0 HY1
  obtain ⟨g, hg⟩ : ∃ g, w.heap.size + 1 = g := ⟨_, rfl⟩
  rw [hg] at F1 B1 hsz ⊢
  have hgw : w.heap.size < g := by omega
  generalize w.alloc (.cells E.row 26) = w0 at *
  refine Lib.hid ?_
  go_wp2_with fail
  go_loopw [13] (fun kv wr => M1Rel w0 g m kv wr) (fun kv _ => m - (intOf kv).toNat)
  case atStart => exact ⟨0, Nat.zero_le _, rfl, F1, B1.out⟩
  case round =>
    obtain ⟨k, hk, rfl, RN, hbr⟩ := hrel
    have HBR := Lib.hid hbr
    by_cases hlt : k < m
    · have g0 := RN.out.cell (mapR_get hlt)
      have gz := RN.out.2.frozenAt k
      have F3 : Hid (Nm (wr.setCell ⟨g, k, none⟩ (.int .i64 (-1))) g m (mapR m (m1 (k + 1)))) := by
        have := RN.out.set k (-1)
        rw [m1_up] at this
        exact this
      have B3 := Lib.hid (HBR.out.setCell (p := ⟨g, k, none⟩) (Nat.le_refl g) (.int .i64 (-1)))
      clear hbr
      go_wp2_with fail
      go_roundw
      case rel => exact ⟨k + 1, by omega, by go_num, F3, B3.out⟩
      case measure => simp [intOf]; omega
    · obtain rfl : k = m := by omega
      clear hbr
      obtain ⟨c0, c1, c2, c3, c4, c5⟩ := C.out
      have k0 := (HBR.out.cell (p := ⟨w.heap.size, 0, none⟩) hgw).trans c0
      have k1 := (HBR.out.cell (p := ⟨w.heap.size, 1, none⟩) hgw).trans c1
      have k2 := (HBR.out.cell (p := ⟨w.heap.size, 2, none⟩) hgw).trans c2
      have k3 := (HBR.out.cell (p := ⟨w.heap.size, 3, none⟩) hgw).trans c3
      have k4 := (HBR.out.cell (p := ⟨w.heap.size, 4, none⟩) hgw).trans c4
      have k5 := (HBR.out.cell (p := ⟨w.heap.size, 5, none⟩) hgw).trans c5
      have HMR := Lib.hid (HM.out.below HBR.out (Nat.le_of_eq hsz))
      clear c0 c1 c2 c3 c4 c5
      have hgs := RN.out.lt
      go_wp2_with fail
      refine (order_lv E k wr HMR.out hm hlim).mono ?_
      rintro e w2 ⟨o, v, hO, rfl, hV, hb2⟩
      have F2 : Hid (Nm w2 g k (mapR k (atN o 0))) := by
        have := RN.out.below hb2
        rw [m1_end, atN_start o] at this
        exact this
      have B2 := Lib.hid (HBR.out.trans (hb2.mono (by omega)))
      have V2 : Hid (LV (fun b => b ≤ g) w2 v o) := hV.sv (P := fun _ => False) (Sv.refl _ _) (fun _ h => h.elim) (fun b _ h => by omega)
      have HO := Lib.hid hO
      have HND := Lib.hid (ord_nodup hO)
      have HIN : Hid (∀ x ∈ o, 0 ≤ x ∧ x < k) := by show ∀ x ∈ o, 0 ≤ x ∧ x < k; rw [← hm.out]; exact ord_in hO
      obtain ⟨A, c, hv, -⟩ := hV
      obtain ⟨n, hn⟩ : ∃ n, o.length = n := ⟨_, rfl⟩
      rw [hn] at hv
      subst hv
      have HN := Lib.hid hn
      have hnm : n ≤ k := by rw [← hn, ← hm.out]; exact ord_len hO
      clear hn hO hb2 k0 k1 k2 k3 k4 k5 HMR F1 B1 RN
      go_wp2_with fail
      go_loopw [23] (fun kv wr => StRel w0 g k (.slice A n c) o n kv wr) (fun kv _ => n - (intOf kv).toNat)
      case atStart => exact ⟨0, Nat.zero_le _, rfl, F2, V2, B2.out⟩
      case round =>
        obtain ⟨q, hq, rfl, RF, RV, hbr2⟩ := hrel
        have HBR2 := Lib.hid hbr2
        have hgs2 := RF.out.lt
        clear hbr2
        by_cases hlq : q < n
        · obtain ⟨A2, c2, hvv, -, hlc⟩ := id RV.out
          have HLC := Lib.hid hlc
          clear hlc
          injection hvv with e1 e2 e3
          subst e1 e3
          clear e2
          obtain ⟨lb, lo, rfl, hlb, hne, hcs⟩ := HLC.out (by have := HN.out; omega)
          obtain ⟨x, hx⟩ : ∃ x, o[q]? = some x := ⟨_, List.getElem?_eq_getElem (by have := HN.out; omega)⟩
          have hxin := HIN.out x (List.mem_of_getElem? hx)
          obtain ⟨j, rfl⟩ : ∃ j : Nat, x = j := ⟨x.toNat, by omega⟩
          have x0 := hcs q _ hx
          have hjm : j < k := by omega
          have g0 := RF.out.cell (mapR_get hjm)
          have gz := RF.out.2.frozenAt j
          have F3 : Hid (Nm (wr.setCell ⟨g, j, none⟩ (.int .i64 q)) g k (mapR k (atN o (q + 1)))) := by
            have := RF.out.set j q
            rw [atN_up HND.out hx] at this
            exact this
          have V3 := Lib.hid (RV.out.sv (N' := fun b => b ≤ g) ((Sv.refl (fun k => k = g) wr).setCell (p := ⟨g, j, none⟩) (.inl rfl) (.int .i64 q)) (fun b h => by omega) (fun _ _ h => h))
          have B3 := Lib.hid (HBR2.out.setCell (p := ⟨g, j, none⟩) (Nat.le_refl g) (.int .i64 q))
          clear hcs hx hxin HLC hne
          go_wp2_with fail
          go_roundw
          case rel => exact ⟨q + 1, by omega, by go_num, F3, V3, B3.out⟩
          case measure => simp [intOf]; omega
        · have HW := Lib.hid (HB.out.trans (HBR2.out.mono (Nat.le_of_lt hgw)))
          have HS : Hid (Nm wr g k (mapR k (plN o))) := by
            have h := RF.out
            rw [mapR_congr (g := plN o) (fun x _ => by unfold atN plN; rw [List.take_of_length_le (by have := HN.out; omega)])] at h
            exact h
          clear RF RV
          go_wp2_with fail
          go_ret
          exact ⟨o, g, HO.out, rfl, HS.out, Nat.le_of_lt hgw, HW.out⟩
end Go.Proofs.Ytpaddigjjlidcaa
