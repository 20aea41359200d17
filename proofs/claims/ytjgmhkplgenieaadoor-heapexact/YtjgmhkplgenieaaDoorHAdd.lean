/-
  CONTRACTS: what Reach's own function does: it flags the objects of a row that aren't flagged yet, and lets them wait. Conditions: none of our own.
-/
import Derived.Test.YtjgmhkplgenieaaDoorHRch
namespace Go.Proofs.YtjgmhkplgenieaaDoor
open Go.RowKit

def boolsOf (l : List Bool) : List Value := l.map fun b => .bool b
theorem bool_info : (Tryd.prog.info? 4).map (fun i => (i.zero, i.size, i.bytes)) = some (some (.bool false), 1, 1) := by kernel_rfl
def lenV : Value → Nat | .slice _ n _ => n | _ => 0
def notYet (w : World) (g i : Nat) : Bool := match w.cell? ⟨g, i, none⟩ with | some (.bool true) => false | _ => true
def cntW (w : World) (g m : Nat) : Nat := ((List.range m).filter (notYet w g)).length
def Fl (w : World) (g m : Nat) (fl : List Bool) : Prop := fl.length = m ∧ w.ownsRow g 4 1 (.slice (some ⟨g, 0, none⟩) m m) m (boolsOf fl)
theorem Fl.cell {w : World} {g m : Nat} {fl : List Bool} (h : Fl w g m fl) {i : Nat} {b : Bool} (hb : fl[i]? = some b) : w.cell? ⟨g, i, none⟩ = some (.bool b) := by
  have hi : i < m := by rw [← h.1]; exact (List.getElem?_eq_some_iff.1 hb).1
  rw [h.2.cellAt i (by omega)]
  unfold boolsOf
  rw [List.getElem?_map, hb]; rfl
theorem Fl.cnt {w : World} {g m : Nat} {fl : List Bool} (h : Fl w g m fl) : cntW w g m = fl.count false := by
  unfold cntW
  rw [count_range fl (notYet w g) m (by rw [h.1]; exact Nat.le_refl _) (fun i b hi hb => by unfold notYet; rw [h.cell hb]; cases b <;> rfl), List.take_of_length_le (by rw [h.1]; exact Nat.le_refl _)]
theorem Fl.lt {w : World} {g m : Nat} {fl : List Bool} (h : Fl w g m fl) : g < w.heap.size := (h.2.lt g rfl).2
theorem Fl.sv {w w' : World} {P : Nat → Prop} {g m : Nat} {fl : List Bool} (h : Fl w g m fl) (hs : Sv P w w') (hp : ¬ P g) : Fl w' g m fl := ⟨h.1, own_sv h.2 hs (fun x hx e => by obtain rfl : g = x := Option.some.inj hx; exact hp e)⟩
theorem Fl.set {w : World} {g m : Nat} {fl : List Bool} (h : Fl w g m fl) (j : Nat) : Fl (w.setCell ⟨g, j, none⟩ (.bool true)) g m (fl.set j true) := by
  refine ⟨by rw [List.length_set]; exact h.1, ?_⟩
  have := (h.2.stored j (.bool true)).1
  unfold boolsOf at this ⊢
  rw [List.map_set]; exact this

structure RM (w : World) (B m : Nat) (hv : Value) (fl : List Bool) (wv : Value) (ws : List Int) : Prop where
  vh : w.heap[B]? = some (.cells #[hv] 27 (0, 0))
  F : Fl w (B + 1) m fl
  fh : w.heap[B + 2]? = some (.cells #[.slice (some ⟨B + 1, 0, none⟩) m m] 55 (0, 0))
  th : w.heap[B + 3]? = some (.cells #[wv] 24 (0, 0))
  O : w.ownsRow (B + 4) 3 1 wv ws.length (intsZ ws)
theorem RM.below {w w' : World} {B m : Nat} {hv wv : Value} {fl : List Bool} {ws : List Int} (h : RM w B m hv fl wv ws) (hb : Below w.heap.size w w') : RM w' B m hv fl wv ws :=
  have k {i : Nat} {o : Obj} (e : w.heap[i]? = some o) : w'.heap[i]? = some o := (hb.block i (Array.getElem?_eq_some_iff.1 e).1).trans e
  ⟨k h.vh, h.F.sv (Sv.of (P := fun _ => False) hb) id, k h.fh, k h.th, own_sv h.O (Sv.of (P := fun _ => False) hb) (fun _ _ => id)⟩
theorem RM.size {w : World} {B m : Nat} {hv wv : Value} {fl : List Bool} {ws : List Int} (h : RM w B m hv fl wv ws) : B + 3 < w.heap.size := (Array.getElem?_eq_some_iff.1 h.th).1
theorem RM.push {w w6 : World} {B m j g cap : Nat} {hv wv : Value} {fl : List Bool} {ws : List Int} {x : Int} {o : Obj} (h : RM w B m hv fl wv ws)
    (hg : ((w.setCell ⟨B + 1, j, none⟩ (.bool true)).alloc o).grownBy w6 wv.ownBlock)
    (ho : w6.ownsRow (B + 4) 3 1 (.slice (some ⟨g, 0, none⟩) (ws.length + 1) cap) (ws.length + 1) (intsZ ws ++ [.int .i64 x])) :
    w6.heap[B + 3]? = some (.cells #[wv] 24 (0, 0)) ∧ RM (w6.setCell ⟨B + 3, 0, none⟩ (.slice (some ⟨g, 0, none⟩) (ws.length + 1) cap)) B m hv (fl.set j true) (.slice (some ⟨g, 0, none⟩) (ws.length + 1) cap) (ws ++ [x]) ∧
      Below B w (w6.setCell ⟨B + 3, 0, none⟩ (.slice (some ⟨g, 0, none⟩) (ws.length + 1) cap)) := by
  have hz := h.size
  have s1 : Sv (fun k => k = B + 1) w (w.setCell ⟨B + 1, j, none⟩ (.bool true)) := (Sv.refl (fun k => k = B + 1) w).setCell (p := ⟨B + 1, j, none⟩) (.inl rfl) _
  have s2 : Sv (fun k => B + 4 ≤ k) (w.setCell ⟨B + 1, j, none⟩ (.bool true)) w6 := ((Sv.refl _ _).alloc o).grown hg (fun k hk => .inl (h.O.lt k hk).1)
  have s3 : Sv (fun k => k = B + 3) w6 (w6.setCell ⟨B + 3, 0, none⟩ (.slice (some ⟨g, 0, none⟩) (ws.length + 1) cap)) := (Sv.refl (fun k => k = B + 3) w6).setCell (p := ⟨B + 3, 0, none⟩) (.inl rfl) _
  have z2 : w.heap.size ≤ w6.heap.size := Nat.le_trans s1.size s2.size
  have k2 {i : Nat} (h1 : i < w.heap.size) (h2 : i ≠ B + 1) (h3 : i < B + 4) : w6.heap[i]? = w.heap[i]? :=
    (s2.block i (Nat.lt_of_lt_of_le h1 s1.size) (by omega)).trans (s1.block i h1 h2)
  have k3 {i : Nat} (h1 : i < w.heap.size) (h2 : i ≠ B + 1) (h3 : i < B + 3) : (w6.setCell ⟨B + 3, 0, none⟩ (.slice (some ⟨g, 0, none⟩) (ws.length + 1) cap)).heap[i]? = w.heap[i]? :=
    (s3.block i (by omega) (by omega)).trans (k2 h1 h2 (by omega))
  have hth := (k2 hz (by omega) (by omega)).trans h.th
  refine ⟨hth, ⟨(k3 (by omega) (by omega) (by omega)).trans h.vh, ((h.F.set j).sv s2 (by omega)).sv s3 (by omega), (k3 (by omega) (by omega) (by omega)).trans h.fh, heap_setCell_same w6 (B + 3) 0 _ 24 _ hth, ?_⟩, ?_⟩
  · have e : intsZ (ws ++ [x]) = intsZ ws ++ [.int .i64 x] := by unfold intsZ; rw [List.map_append]; rfl
    rw [e, List.length_append]
    exact own_sv ho s3 (fun y hy e => by have := (ho.lt y hy).1; omega)
  · exact (((s1.mono (Q := fun k => B ≤ k) (fun i hi => by omega)).trans s2 (fun i hi => .inl (by omega))).trans s3 (fun i hi => .inl (by omega))).below (fun i hi => hi) (by omega)

theorem addS_take {H : Option Hp} {s : List Bool × List Int} {l : List Int} {k : Nat} {x : Int} (h : l[k]? = some x) : addS H s (l.take (k + 1)) = addF H (addS H s (l.take k)) x := by
  unfold addS
  rw [List.take_succ_eq_append_getElem (List.getElem?_eq_some_iff.1 h).1, (List.getElem?_eq_some_iff.1 h).2, List.foldl_append]; rfl
def AddRel (w : World) (B m n : Nat) (hv : Value) (H : Option Hp) (s : List Bool × List Int) (l : List Int) (A : Option Addr) (i : Value) (wr : World) : Prop :=
  ∃ (k : Nat) (fl : List Bool) (wv : Value) (ws : List Int), k ≤ n ∧ i = .int .i64 k ∧ Hid (addS H s (l.take k) = (fl, ws)) ∧ Hid (RM wr B m hv fl wv ws) ∧ Hid (IRz wr A l) ∧ Hid (0 < n → ∀ a, A = some a → a.block < B ∨ (B + 4 ≤ a.block ∧ wv.ownBlock ≠ some a.block)) ∧ Hid (Below B w wr) ∧ fl.count false + ws.length ≤ m

set_option maxRecDepth 100000 in
set_option maxHeartbeats 2000000 in
theorem add_cl (P : Nat → Prop) (hv : Value) (H : Option Hp) (B m n c : Nat) (s : List Bool × List Int) (wv : Value) (l : List Int) (A : Option Addr) (w : World) (hR : RM w B m hv s.1 wv s.2) (HP : Hid (∀ w', Below B w w' → PM w' P hv H))
    (hl : IRz w A l) (hA : 0 < n → ∀ a, A = some a → a.block < B ∨ (B + 4 ≤ a.block ∧ wv.ownBlock ≠ some a.block)) (hn : Hid (l.length = n)) (hnl : n ≤ 281474976710656) (hm : Hid (lenO H = m)) (hm2 : m ≤ 131072) (hc : s.1.count false + s.2.length ≤ m) :
    Calls Tryd.prog 34 #[.slice A n c, .pointer (some ⟨B, 0, none⟩), .pointer (some ⟨B + 2, 0, none⟩), .pointer (some ⟨B + 3, 0, none⟩)] w fun e w' => e = .returned (.tuple #[]) ∧ Below B w w' ∧ ∃ wv', RM w' B m hv (addS H s l).1 wv' (addS H s l).2 := by
  obtain ⟨i0, hi0, hz0, hz1, hz2⟩ := info_parts int_info
  have HI0 := Lib.hid hi0
  have HZ0 := Lib.hid hz0
  have HZ1 := Lib.hid hz1
  have HZ2 := Lib.hid hz2
  have HR := Lib.hid hR
  have HL := Lib.hid hl
  have HA := Lib.hid hA
  clear hi0 hz0 hz1 hz2 hR hl hA
  go_enter Tryd.func34, Tryd.ntmps34
  go_wp2_with fail
  go_loopw [9] (fun i wr => AddRel w B m n hv H s l A i wr) (fun i _ => n - (intOf i).toNat)
  case atStart => exact ⟨0, s.1, wv, s.2, Nat.zero_le _, rfl, rfl, HR, HL, HA, Below.refl _ _, hc⟩
  case round =>
    obtain ⟨k, fl, wr1, ws, hk, rfl, HS, HM, HLr, HAr, HB, hcnt⟩ := hrel
    by_cases hlt : k < n
    · obtain ⟨x, hx⟩ : ∃ x, l[k]? = some x := ⟨_, List.getElem?_eq_getElem (by have := hn.out; omega)⟩
      obtain ⟨gb, go, rfl, hgl, hgc⟩ := HLr.out (by have := hn.out; omega)
      have cx := hgc k x hx
      have hst := addS_take (H := H) (s := s) hx
      rw [HS.out] at hst
      have HST := Lib.hid hst
      have HPr := Lib.hid (HP.out _ HB.out)
      have v0 : wr.cell? ⟨B, 0, none⟩ = some hv := cell_of_row wr B 0 _ 27 (0, 0) HM.out.vh
      have f0 : wr.cell? ⟨B + 2, 0, none⟩ = some (.slice (some ⟨B + 1, 0, none⟩) m m) := cell_of_row wr (B + 2) 0 _ 55 (0, 0) HM.out.fh
      have t0 : wr.cell? ⟨B + 3, 0, none⟩ = some wr1 := cell_of_row wr (B + 3) 0 _ 24 (0, 0) HM.out.th
      have t1 : wr.frozen? ⟨B + 3, 0, none⟩ = false := frozen_of_row wr (B + 3) 0 _ 24 HM.out.th
      have hzr := HM.out.size
      have HCX := Lib.hid cx
      clear hgc hx hst
      cases hh : hasO H x with
      | false =>
        have HN : Hid (addS H s (l.take (k + 1)) = (fl, ws)) := by show _ = _; rw [HST.out]; unfold addF; rw [hh]; rfl
        have HH := Lib.hid hh
        clear hh HST
        go_wp2_with (go_at_call 30; refine (has_obj P _ _ x false _ HPr.out HH).mono ?_; rintro e w' ⟨rfl, rfl⟩)
        go_roundw
        case rel => exact ⟨k + 1, fl, wr1, ws, by omega, by go_num, HN, HM, HLr, HAr, HB, hcnt⟩
        case measure => simp [intOf]; omega
      | true =>
        obtain ⟨j, hj, hxj⟩ : ∃ j : Nat, j < m ∧ x = (j : Int) + 1 := by
          obtain ⟨a1, a2⟩ := has_lt hh
          exact ⟨(x - 1).toNat, by have := hm.out; omega, by omega⟩
        subst hxj
        have HH := Lib.hid hh
        have hw : IntKind.i64.wrap ((j : Int) + 1 - 1) = (j : Int) := by rw [show (j : Int) + 1 - 1 = j by omega]; exact IntWalk.i64_in _ (by omega)
        obtain ⟨b, hb⟩ : ∃ b, fl[j]? = some b := ⟨_, List.getElem?_eq_getElem (by have := HM.out.F.1; omega)⟩
        have hfc : wr.cell? ⟨B + 1, j, none⟩ = some (.bool b) := HM.out.F.cell hb
        have hff : wr.frozen? ⟨B + 1, j, none⟩ = false := HM.out.F.2.frozenAt j
        have hfl : flB fl ((j : Int) + 1) = b := by
          unfold flB
          rw [decide_eq_true (by omega), show ((j : Int) + 1 - 1).toNat = j by omega, hb]
          cases b <;> rfl
        cases b with
        | true =>
          have HN : Hid (addS H s (l.take (k + 1)) = (fl, ws)) := by show _ = _; rw [HST.out]; unfold addF; rw [hh, hfl]; rfl
          clear hh HST hb hfl
          go_wp2_with (go_at_call 30; refine (has_obj P _ _ _ true _ HPr.out HH).mono ?_; rintro e w' ⟨rfl, rfl⟩)
          go_roundw
          case rel => exact ⟨k + 1, fl, wr1, ws, by omega, by go_num, HN, HM, HLr, HAr, HB, hcnt⟩
          case measure => simp [intOf]; omega
        | false =>
          have HN : Hid (addS H s (l.take (k + 1)) = (fl.set j true, ws ++ [(j : Int) + 1])) := by
            show _ = _; rw [HST.out]; unfold addF; rw [hh, hfl, show ((j : Int) + 1 - 1).toNat = j by omega]; rfl
          have HC2 : Hid ((fl.set j true).count false + 1 = fl.count false) := hcount_set hb
          clear hh HST hb hfl
          go_wp2_with (first | (go_at_call 30; refine (has_obj P _ _ _ true _ HPr.out HH).mono ?_; rintro e w' ⟨rfl, rfl⟩) | (at_builtin; refine Hid.out ?_))
          refine Lib.hid ?_
          have HSZ : (wr.setCell ⟨B + 1, j, none⟩ (.bool true)).heap.size = wr.heap.size := by simp [World.setCell]
          have HOW := Lib.hid ((own_sv HM.out.O ((Sv.refl (fun k => k = B + 1) wr).setCell (p := ⟨B + 1, j, none⟩) (.inl rfl) (.bool true)) (fun y hy e => by have := (HM.out.O.lt y hy).1; omega)).alloc (.cells #[.int .i64 ((j : Int) + 1)] 3))
          have HNW := Lib.hid (news0 (wr.setCell ⟨B + 1, j, none⟩ (.bool true)) 3 (.int .i64 ((j : Int) + 1)))
          rw [HSZ] at HNW
          refine wpList_append_lies _ rfl (.tmp 28) (.tmp 30) _ rfl (B + 4) 3 i0 _ 1 8 Tryd.underlying24 HI0.out HZ0.out HZ1.out HZ2.out rfl (by omega) wr1 ws.length (intsZ ws) rfl HOW.out ⟨wr.heap.size, 0, none⟩ 1 1 [.int .i64 ((j : Int) + 1)] rfl rfl HNW.out (by simp [Value.oneCell']) (by omega) (by simp only [maxLen]; omega) (by omega) (by simp; omega) (wr.heap.size + 1) (by simp) ?_
          intro g cap w6 hown hg hat hlt6
          obtain ⟨k1, k2, k3⟩ := HM.out.push hg hown
          have q1 : w6.cell? ⟨B + 3, 0, none⟩ = some wr1 := cell_of_row w6 (B + 3) 0 _ 24 (0, 0) k1
          have q2 : w6.frozen? ⟨B + 3, 0, none⟩ = false := frozen_of_row w6 (B + 3) 0 _ 24 k1
          have K2 := Lib.hid k2
          have K3 := Lib.hid (HB.out.trans k3)
          have hgx : 0 < n → ∀ a, some (⟨gb, go, none⟩ : Addr) = some a → a.block < B ∨ (B + 4 ≤ a.block ∧ (Value.slice (some ⟨g, 0, none⟩) (ws.length + 1) cap).ownBlock ≠ some a.block) := by
            intro _ a ha
            rcases HAr.out (by omega) a ha with h | ⟨h1, h2⟩
            · exact .inl h
            · refine .inr ⟨h1, fun e => ?_⟩
              obtain rfl : g = a.block := Option.some.inj e
              rcases hat with h3 | h3
              · exact h2 h3
              · obtain rfl := Option.some.inj ha
                have : gb = wr.heap.size + 1 := h3
                omega
          have hl7 : Hid (IRz (w6.setCell ⟨B + 3, 0, none⟩ (.slice (some ⟨g, 0, none⟩) (ws.length + 1) cap)) (some ⟨gb, go, none⟩) l) := by
            intro h0
            obtain ⟨b', o', e, h4, h5⟩ := HLr.out h0
            cases e
            refine ⟨gb, go, rfl, Nat.lt_of_lt_of_le h4 (by rw [← HSZ]; have := hg.size; simp [World.setCell] at this ⊢; omega), fun q y hy => ?_⟩
            have hne : gb ≠ B + 1 ∧ gb ≠ B + 3 ∧ wr1.ownBlock ≠ some gb := by
              rcases HAr.out (by omega) _ rfl with h | ⟨h1, h2⟩
              · have h' : gb < B := h
                exact ⟨by omega, by omega, fun e => by have := (HM.out.O.lt gb e).1; omega⟩
              · have h' : B + 4 ≤ gb := h1
                exact ⟨by omega, by omega, h2⟩
            rw [← h5 q y hy]
            refine World.cell?_of_block (w := wr) (a := ⟨gb, go + q, none⟩) ?_
            refine (Below.heap_setCell _ _ _ _ hne.2.1).trans ((hg.block gb (by simp [World.setCell]; omega) (fun e => hne.2.2 e.symm)).trans ((Below.heap_alloc _ _ _ (by rw [HSZ]; exact h4)).trans (Below.heap_setCell _ _ _ _ hne.1)))
          have HGX := Lib.hid hgx
          clear k1 k2 k3 hown hg hat hgx HOW HNW HSZ cx hfc hff v0 f0 t0 t1
          go_wp2_with fail
          go_roundw
          case rel => exact ⟨k + 1, _, _, _, by omega, by go_num, HN, K2, hl7, HGX, K3, by rw [List.length_append]; have := HC2.out; simp only [List.length_cons, List.length_nil]; omega⟩
          case measure => simp [intOf]; omega
    · obtain rfl : k = n := by omega
      have HE : addS H s l = (fl, ws) := by have := HS.out; rwa [List.take_of_length_le (by rw [hn.out]; exact Nat.le_refl _)] at this
      have HE := Lib.hid HE
      go_wp2_with fail
      go_end0
      exact ⟨rfl, HB.out, wr1, by rw [HE.out]; exact HM.out⟩

end Go.Proofs.YtjgmhkplgenieaaDoor
