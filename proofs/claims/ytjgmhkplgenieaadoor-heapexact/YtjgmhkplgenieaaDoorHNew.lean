/-
  CONTRACTS: New of package heap, at every row of structs, wrong ones too: a heap without objects in blocks of its own, or nil. Conditions: none of our own.
-/
import Derived.Test.YtjgmhkplgenieaaDoorHShapeOf
import Derived.Test.YtjgmhkplgenieaaDoorHClone
import Derived.Test.YtjgmhkplgenieaaDoorCheck
import Derived.Deep.RegionLaw
namespace Go.Proofs.YtjgmhkplgenieaaDoor
open Go.RowKit

def newO (ss : List Str) : Option Hp := if (chk ss).2 = 0 then some ⟨ss, []⟩ else none
/-- The heap while its shapes are laid. -/
structure NM (w : World) (hb : Nat) (ss : List Str) (sv : Value) : Prop where
  hd : w.heap[hb]? = some (.cells #[sv, .slice none 0 0] 67 (0, 0))
  so : w.ownsRow (hb + 1) 70 10 sv ss.length (shsV ss)
  sn : ss = [] → sv = .slice none 0 0
theorem NM.below {w w' : World} {hb : Nat} {ss : List Str} {sv : Value} (h : NM w hb ss sv) (hs : Below w.heap.size w w') : NM w' hb ss sv :=
  ⟨(hs.block hb (Array.getElem?_eq_some_iff.1 h.hd).1).trans h.hd, own_sv h.so (Sv.of (P := fun _ => False) hs) (fun _ _ => id), h.sn⟩
theorem NM.push {w w6 : World} {hb g cap : Nat} {ss : List Str} {s : Str} {sv : Value} {o : Obj} (h : NM w hb ss sv) (hg : (w.alloc o).grownBy w6 sv.ownBlock)
    (ho : w6.ownsRow (hb + 1) 70 10 (.slice (some ⟨g, 0, none⟩) (ss.length + 1) cap) (ss.length + 1) (shsV ss ++ shV s)) :
    w6.heap[hb]? = some (.cells #[sv, .slice none 0 0] 67 (0, 0)) ∧ NM (w6.setCell ⟨hb, 0, none⟩ (.slice (some ⟨g, 0, none⟩) (ss.length + 1) cap)) hb (ss ++ [s]) (.slice (some ⟨g, 0, none⟩) (ss.length + 1) cap) ∧
      Below hb w (w6.setCell ⟨hb, 0, none⟩ (.slice (some ⟨g, 0, none⟩) (ss.length + 1) cap)) := by
  have hlt := (Array.getElem?_eq_some_iff.1 h.hd).1
  have b6 : Below (hb + 1) w w6 := ((Below.refl _ w).alloc (by omega) o).grown hg (by simp; omega) (fun k hk => (h.so.lt k hk).1)
  have hhd := (b6.block hb (by omega)).trans h.hd
  have s1 : Sv (fun k => k = hb) w6 (w6.setCell ⟨hb, 0, none⟩ (.slice (some ⟨g, 0, none⟩) (ss.length + 1) cap)) := (Sv.refl (fun k => k = hb) w6).setCell (p := ⟨hb, 0, none⟩) (.inl rfl) _
  refine ⟨hhd, ⟨heap_setCell_same w6 hb 0 _ 67 _ hhd, ?_, fun e => absurd e (by simp)⟩, (b6.mono (by omega)).trans (s1.below (fun i hi => by omega) (by have := b6.size; omega))⟩
  unfold shsV at ho ⊢
  rw [List.length_append, List.flatMap_append, List.flatMap_singleton]
  exact own_sv ho s1 (fun y hy e => by have := (ho.lt y hy).1; omega)
theorem NM.pushK {w w6 : World} {hb g cap k : Nat} {ss : List Str} {s : Str} {sv : Value} {o : Obj} (h : NM w hb ss sv) (hk : ss.length = k) (hg : (w.alloc o).grownBy w6 sv.ownBlock)
    (ho : w6.ownsRow (hb + 1) 70 10 (.slice (some ⟨g, 0, none⟩) (k + 1) cap) (k + 1) (shsV ss ++ shV s)) :
    w6.heap[hb]? = some (.cells #[sv, .slice none 0 0] 67 (0, 0)) ∧ NM (w6.setCell ⟨hb, 0, none⟩ (.slice (some ⟨g, 0, none⟩) (k + 1) cap)) hb (ss ++ [s]) (.slice (some ⟨g, 0, none⟩) (k + 1) cap) ∧
      Below hb w (w6.setCell ⟨hb, 0, none⟩ (.slice (some ⟨g, 0, none⟩) (k + 1) cap)) := by
  subst hk
  exact h.push hg ho
theorem NM.soK {w : World} {hb k : Nat} {ss : List Str} {sv : Value} (h : NM w hb ss sv) (hk : ss.length = k) : w.ownsRow (hb + 1) 70 10 sv k (shsV ss) := by
  subst hk
  exact h.so
theorem HM.new {w : World} {hb : Nat} {ss : List Str} {sv : Value} {p : Nat} (h : NM w hb ss sv) (hc : chk ss = (p, 0)) (W : World) (hw : W.heap.size ≤ hb) : HM w (Nw W w) hb ⟨ss, []⟩ sv (.slice none 0 0) := by
  have hlt := (Array.getElem?_eq_some_iff.1 h.hd).1
  refine ⟨⟨ok_len hc, fun s hs => ?_, Nat.zero_le _, fun o ho => absurd ho (by simp), fun o ho => absurd ho (by simp)⟩, h.hd, own_mono h.so (Nat.zero_le _), ⟨rfl, .inl ⟨rfl, rfl⟩⟩, h.sn, fun _ => rfl, ⟨hw, hlt⟩, fun g hg => ?_, fun g hg => by cases hg⟩
  · obtain ⟨i, hi⟩ := List.getElem?_of_mem hs
    exact (ok_struct hc hi).2.2.1
  · have := h.so.lt g hg
    exact ⟨⟨by omega, this.2⟩, by omega⟩

def NwRel (w : World) (hb m : Nat) (ss : List Str) (i : Value) (wr : World) : Prop :=
  ∃ (k : Nat) (sv : Value), k ≤ m ∧ i = .int .i64 k ∧ Hid (NM wr hb (ss.take k) sv) ∧ Hid (Below w.heap.size w wr)

set_option maxRecDepth 100000 in
set_option maxHeartbeats 4000000 in
theorem new_any (A : Option Addr) (c m : Nat) (ss : List Str) (w : World) (hK : KeysIn w) (hR : SR w A ss) (hm : Hid (ss.length = m)) (hl : m ≤ 281474976710656) (hmc : m ≤ c) :
    Calls Tryd.prog 8 #[.slice A m c] w fun e w' => ∃ v, e = .returned v ∧ Below w.heap.size w w' ∧ PM w' (Nw w w') v (newO ss) := by
  obtain ⟨⟨p, r⟩, hc⟩ : ∃ x, chk ss = x := ⟨_, rfl⟩
  have HC := Lib.hid hc
  have HK := Lib.hid hK
  have HR := Lib.hid hR
  by_cases h0 : r = 0
  · subst h0
    rw [show newO ss = some ⟨ss, []⟩ by unfold newO; rw [hc]; rfl]
    clear hc hK hR
    obtain ⟨i0, hi0, hz0, hz1, hz2⟩ := info_parts shp_info
    have HI0 := Lib.hid hi0
    have HZ0 := Lib.hid hz0
    have HZ1 := Lib.hid hz1
    have HZ2 := Lib.hid hz2
    clear hi0 hz0 hz1 hz2
    have hm12 : m ≤ 12 := by have := ok_len HC.out; rw [hm.out] at this; exact this
    go_enter Tryd.func8, Tryd.ntmps8
    go_wp2_with (go_at_call 23; refine (check_any A c m ss p 0 _ HK.out HR.out hm hl hmc HC).mono ?_; rintro e w1 ⟨rfl, hb1⟩)
    have N1 : NM (w1.alloc (.cells #[.slice none 0 0, .slice none 0 0] 67)) w1.heap.size (ss.take 0) (.slice none 0 0) :=
      ⟨heap_alloc_new w1 _, ⟨rfl, .inl ⟨rfl, rfl⟩⟩, fun _ => rfl⟩
    have B1 := Lib.hid (hb1.alloc hb1.size (.cells #[.slice none 0 0, .slice none 0 0] 67))
    have N1 := Lib.hid N1
    have hbw : w.heap.size ≤ w1.heap.size := hb1.size
    generalize w1.alloc (.cells #[.slice none 0 0, .slice none 0 0] 67) = w2 at *
    generalize w1.heap.size = hb at *
    clear hb1
    go_loopw [19] (fun i wr => NwRel w hb m ss i wr) (fun i _ => m - (intOf i).toNat)
    case atStart => exact ⟨0, _, Nat.zero_le _, rfl, N1, B1⟩
    case round =>
      obtain ⟨k, sv, hk, rfl, HN, HB⟩ := hrel
      by_cases hlt : k < m
      · obtain ⟨s, hs⟩ : ∃ s, ss[k]? = some s := ⟨_, List.getElem?_eq_getElem (by have := hm.out; omega)⟩
        obtain ⟨sb, so, rfl, hsg, hcs⟩ := HR.out (by have := hm.out; omega)
        obtain ⟨FA, fc, c0, c1, f1, -, f3⟩ := hcs k s hs
        have d0 := (HB.out.cell (p := ⟨sb, so + k * 2, none⟩) hsg).trans c0
        have d1 := (HB.out.cell (p := ⟨sb, so + k * 2 + 1, none⟩) hsg).trans c1
        have h8 := (ok_struct HC.out hs).2.2.1
        have htk : ss.take (k + 1) = ss.take k ++ [s] := by rw [List.take_succ_eq_append_getElem (List.getElem?_eq_some_iff.1 hs).1, (List.getElem?_eq_some_iff.1 hs).2]
        have hkl : (ss.take k).length = k := by rw [List.length_take]; have := hm.out; omega
        have HTK := Lib.hid htk
        have HKL := Lib.hid hkl
        have hhb : hb < wr.heap.size := (Array.getElem?_eq_some_iff.1 HN.out.hd).1
        have W0 : Below wr.heap.size wr (wr.alloc (.cells #[.string s.name, .slice FA s.fields.length fc] 52)) := (Below.refl _ wr).alloc (Nat.le_refl _) _
        have q0 : (wr.alloc (.cells #[.string s.name, .slice FA s.fields.length fc] 52)).cell? ⟨hb, 0, none⟩ = some sv := cell_of_row _ hb 0 _ 67 (0, 0) (HN.out.below W0).hd
        have HCL : Hid (∀ w', Below wr.heap.size wr w' → Calls Tryd.prog 24 #[.agg #[.string s.name, .slice FA s.fields.length fc]] w' fun e w3 => e = .returned (.agg #[.string s.name, .int .i64 s.fields.length, .bool (linkB s.fields 0), .bool (linkB s.fields 1), .bool (linkB s.fields 2), .bool (linkB s.fields 3), .bool (linkB s.fields 4), .bool (linkB s.fields 5), .bool (linkB s.fields 6), .bool (linkB s.fields 7)]) ∧ w3.cell? ⟨hb, 0, none⟩ = some sv ∧ NM w3 hb (ss.take k) sv ∧ Below wr.heap.size wr w3) := by
          intro w' b'
          have bw := HB.out.trans (b'.mono HB.out.size)
          refine (shapeOf_any s FA fc s.fields.length w' (HK.out.below bw (Nat.le_refl _)) (f3.below bw (Nat.le_refl _)) rfl h8).mono ?_
          rintro e w3 ⟨rfl, b3⟩
          have hn3 := (HN.out.below b').below b3
          exact ⟨rfl, cell_of_row _ hb 0 _ 67 (0, 0) hn3.hd, hn3, b'.trans (b3.mono b'.size)⟩
        have HW0 := Lib.hid W0
        clear hcs hs c0 c1 f3 htk hkl W0
        have HFL := Lib.hid f1
        generalize hfl : s.fields.length = fl at *
        have HFL2 := Lib.hid hfl
        clear hfl f1 h8
        go_wp2_with fail
        have HSV : Hid (shV s = [.string s.name, .int .i64 fl, .bool (linkB s.fields 0), .bool (linkB s.fields 1), .bool (linkB s.fields 2), .bool (linkB s.fields 3), .bool (linkB s.fields 4), .bool (linkB s.fields 5), .bool (linkB s.fields 6), .bool (linkB s.fields 7)]) := by
          show _ = _
          rw [← HFL2.out]; rfl
        have HON := Lib.hid HN.out.so
        go_region_law (first
          | (refine step_append_lies _ rfl (.tmp 27) (.tmp 30) _ rfl (hb + 1) 70 i0 _ 10 32 Tryd.underlying64 HI0.out HZ0.out HZ1.out HZ2.out rfl (by omega) sv k (shsV (ss.take k)) rfl (by exact (n4.out.soK HKL.out).alloc _) ⟨w4.heap.size, 0, none⟩ 1 1 (shV s) rfl (by rw [HSV.out]; rfl) (by rw [HSV.out]; exact World.news_of_block (heap_alloc_new w4 _)) (by rw [HSV.out]; simp [Value.oneCell']) (by omega) (by simp only [maxLen]; omega) (by omega) (by simp; omega) (w4.heap.size + 1) (by simp) ?_; intro g cap w5 hown hg hat hltg; have hpu := Lib.hid (n4.out.pushK HKL.out hg hown); have q5 : w5.cell? ⟨hb, 0, none⟩ = some sv := cell_of_row _ hb 0 _ 67 (0, 0) hpu.out.1; have q6 : w5.frozen? ⟨hb, 0, none⟩ = false := frozen_of_row _ hb 0 _ 67 hpu.out.1; clear hown hg hat)
          | (go_simp; go_at_call 24; refine (HCL.out _ (by first | exact HW0.out | exact HW0.out.drew)).mono ?_; rintro e w4 ⟨rfl, q4, n4, b4⟩; have n4 := Lib.hid n4; have b4 := Lib.hid b4; have hz4 : hb < w4.heap.size := (Array.getElem?_eq_some_iff.1 n4.out.hd).1))
        all_goals
          have hn7 : Hid (NM (w5.setCell ⟨hb, 0, none⟩ (.slice (some ⟨g, 0, none⟩) (k + 1) cap)) hb (ss.take (k + 1)) (.slice (some ⟨g, 0, none⟩) (k + 1) cap)) := by
            show NM _ _ _ _
            rw [HTK.out]
            exact hpu.out.2.1
          have hb7 : Hid (Below w.heap.size w (w5.setCell ⟨hb, 0, none⟩ (.slice (some ⟨g, 0, none⟩) (k + 1) cap))) :=
            HB.out.trans ((b4.out.mono HB.out.size).trans (hpu.out.2.2.mono hbw))
          go_wp2_with fail
          go_roundw
          case rel => exact ⟨k + 1, _, by omega, by go_num, hn7, hb7⟩
          case measure => simp [intOf]; omega
      · obtain rfl : k = m := by omega
        have hn := HN.out
        rw [List.take_of_length_le (by rw [hm.out]; exact Nat.le_refl _)] at hn
        have HM := Lib.hid (HM.new hn HC.out w hbw)
        clear hn
        go_wp2_with fail
        go_ret
        exact ⟨_, rfl, HB.out, hb, _, _, rfl, HM.out⟩
  · have hn1 : ((r : Int) != 0) = true := by simp; omega
    rw [show newO ss = none by unfold newO; rw [hc]; exact if_neg h0]
    clear hc hK hR h0
    go_enter Tryd.func8, Tryd.ntmps8
    go_wp2_with (go_at_call 23; refine (check_any A c m ss p r _ HK.out HR.out hm hl hmc HC).mono ?_; rintro e w1 ⟨rfl, hb1⟩)
    go_ret
    exact ⟨_, rfl, hb1, rfl⟩

end Go.Proofs.YtjgmhkplgenieaaDoor
