/-
  CONTRACT: checkStruct of package kind. Of what was there nothing has turned.
-/
import Derived.Test.YtjgmhkplgenieaaDoorCheckF
import Derived.Deep.RegionHeld3
namespace Go.Proofs.YtjgmhkplgenieaaDoor
open Go.RowKit

def CRel (w : World) (g : Nat → Nat) (m r : Nat) (i : Value) (wr : World) : Prop :=
  ∃ k : Nat, k ≤ m ∧ i = .int .i64 k ∧ Hid (r = (fir g m k).2) ∧ Below w.heap.size w wr

set_option maxHeartbeats 400000 in
theorem checkStruct_any (A : Option Addr) (c m : Nat) (ss : List Str) (k r : Nat) (w : World) (hK : KeysIn w) (hR : SR w A ss)
    (hm : Hid (ss.length = m)) (hl : m ≤ 281474976710656) (hmc : m ≤ c) (hk : k < m) (hr : Hid (chkS ss k = r)) :
    Calls Tryd.prog 39 #[.slice A m c, .int .i64 k] w fun e w' => e = .returned (.int .i64 r) ∧ Below w.heap.size w w' := by
  obtain ⟨b, o, hA, hg, hcs⟩ := hR (by have := hm.out; omega)
  obtain ⟨s, hs⟩ : ∃ s, ss[k]? = some s := ⟨_, List.getElem?_eq_getElem (by have := hm.out; omega)⟩
  obtain ⟨FA, fc, c0, c1, hfc, hfl, hF⟩ := hcs k s hs
  have hch : chkS ss k = if wordB s.name.data.toList = false then 1 else if (fnd (ss.take k) s.name).isSome then 6 else if 8 < s.fields.length then 4 else (fir (chkF ss s.fields) s.fields.length 0).2 := by unfold chkS; rw [hs]
  rw [hr.out] at hch
  have HF := Lib.hid hF
  have HR := Lib.hid hR
  have HK := Lib.hid hK
  have hT : Hid ((ss.take k).length = k) := by show _ = _; rw [List.length_take]; have := hm.out; omega
  clear hcs hs hF hR hK hr
  obtain ⟨sn, fs⟩ := s
  simp only at c0 c1 hch hfc hfl HF
  obtain ⟨fm, hfm⟩ : ∃ fm, fs.length = fm := ⟨_, rfl⟩
  rw [hfm] at c1 hch hfc hfl
  have HFM := Lib.hid hfm
  clear hfm
  have hkc : (k : Int) ≤ (c : Int) := by omega
  have hk0 : (0 : Int) ≤ (k : Int) := by omega
  have hk1 := Lib.hid (HK.out.alloc (.cells #[.string sn, .slice FA fm fc] 52))
  have bb := (Below.refl w.heap.size w).alloc (Nat.le_refl _) (.cells #[.string sn, .slice FA fm fc] 52)
  have hf1 := Lib.hid (HF.out.below bb (Nat.le_refl _))
  have hr1 := Lib.hid (HR.out.below bb (Nat.le_refl _))
  subst hA
  cases h1 : wordB sn.data.toList with
  | false =>
    obtain rfl : r = 1 := by rw [hch, if_pos h1]
    have H1 := Lib.hid h1
    clear hch h1
    go_enter Tryd.func39, Tryd.ntmps39
    go_wp2_with (go_at_call 46; refine (isWord_to _ false _ hk1 H1).mono ?_; rintro e w' ⟨rfl, rfl⟩)
    go_ret
    exact ⟨rfl, bb⟩
  | true =>
    rw [if_neg (by rw [h1]; decide)] at hch
    have H1 := Lib.hid h1
    clear h1
    cases h2 : fnd (ss.take k) sn with
    | some j =>
      have H2 := Lib.hid h2
      obtain rfl : r = 6 := by rw [hch, h2]; rfl
      clear hch h2
      go_enter Tryd.func39, Tryd.ntmps39
      go_wp2_with (go_at_call 46; refine (isWord_to _ true _ hk1 H1).mono ?_; rintro e w' ⟨rfl, rfl⟩)
      go_region_held3 (fun w' => w'.cell? ⟨w.heap.size, 0, none⟩ = some (.string sn)) (first | exact cell_new w _ 52 0 | exact (b1.cell (p := ⟨w.heap.size, 0, none⟩) (by simp)).trans (cell_new w _ 52 0)) (first | (go_at_call 47; refine (find_any _ _ k (ss.take k) _ (some j) _ ?_ hT (by omega) H2).mono ?_; (exact hr1.out.take k); rintro e w1 ⟨rfl, b1⟩; unfold foundV))
      all_goals (go_wp2_with fail; go_ret; first | exact ⟨rfl, below_on bb b1⟩ | exact ⟨rfl, below_on bb.drew b1⟩)
    | none =>
      have H2 := Lib.hid h2
      rw [h2] at hch
      rw [if_neg (by simp)] at hch
      have HCH := Lib.hid hch
      clear hch h2
      go_enter Tryd.func39, Tryd.ntmps39
      go_wp2_with (go_at_call 46; refine (isWord_to _ true _ hk1 H1).mono ?_; rintro e w' ⟨rfl, rfl⟩)
      go_region_held3 (fun w' => w'.cell? ⟨w.heap.size, 0, none⟩ = some (.string sn)) (first | exact cell_new w _ 52 0 | exact (b1.cell (p := ⟨w.heap.size, 0, none⟩) (by simp)).trans (cell_new w _ 52 0)) (first | (go_at_call 47; refine (find_any _ _ k (ss.take k) _ none _ ?_ hT (by omega) H2).mono ?_; (exact hr1.out.take k); rintro e w1 ⟨rfl, b1⟩; unfold foundV))
      have d1 : Below w.heap.size w w1 := by first | exact below_on bb b1 | exact below_on bb.drew b1
      have e0 : w1.cell? ⟨w.heap.size, 0, none⟩ = some (.string sn) := (b1.cell (p := ⟨w.heap.size, 0, none⟩) (by simp)).trans (cell_new w _ 52 0)
      have e1 : w1.cell? ⟨w.heap.size, 1, none⟩ = some (.slice FA fm fc) := (b1.cell (p := ⟨w.heap.size, 1, none⟩) (by simp)).trans (cell_new w _ 52 1)
      have hz : w.heap.size < w1.heap.size := by have := b1.size; simp at this; omega
      have hk3 := Lib.hid (HK.out.below d1 (Nat.le_refl _))
      have hf3 := Lib.hid (HF.out.below d1 (Nat.le_refl _))
      have hr3 := Lib.hid (HR.out.below d1 (Nat.le_refl _))
      have D1 := Lib.hid d1
      clear b1 bb hf1 hr1 hk1 H2 H1 d1 hT
      by_cases h8 : 8 < fm
      · have h8' : (8 : Int) < (fm : Int) := by omega
        obtain rfl : r = 4 := by rw [HCH.out, if_pos h8]
        go_wp2_with fail
        go_ret
        exact ⟨rfl, D1.out⟩
      · have h8' : ¬ (8 : Int) < (fm : Int) := by omega
        have HQ : Hid (r = (fir (chkF ss fs) fm 0).2) := by show _ = _; rw [HCH.out, if_neg h8]
        clear HCH
        go_wp2_with fail
        go_loopw [35] (fun i wr => CRel w1 (chkF ss fs) fm r i wr) (fun i _ => fm - (intOf i).toNat)
        case atStart => exact ⟨0, Nat.zero_le _, rfl, HQ, Below.refl _ _⟩
        case round =>
          obtain ⟨q, hq, rfl, HK2, hb⟩ := hrel
          by_cases hlt : q < fm
          · have f0 := (hb.cell (p := ⟨w.heap.size, 0, none⟩) hz).trans e0
            have f1 := (hb.cell (p := ⟨w.heap.size, 1, none⟩) hz).trans e1
            have hk4 := Lib.hid (hk3.out.below hb (Nat.le_refl _))
            have hf4 := Lib.hid (hf3.out.below hb (Nat.le_refl _))
            have hr4 := Lib.hid (hr3.out.below hb (Nat.le_refl _))
            have d4 := Lib.hid (below_on D1.out hb)
            obtain ⟨er, her⟩ : ∃ er, chkF ss fs q = er := ⟨_, rfl⟩
            have HER := Lib.hid her
            by_cases h0 : er = 0
            · have HN : Hid (r = (fir (chkF ss fs) fm (q + 1)).2) := by show _ = _; rw [HK2.out, fir_next hlt (her.trans h0)]
              subst h0
              clear her
              go_wp2_with (go_at_call 48; refine (checkField_any _ _ m ss _ _ _ fm fs q 0 _ hk4.out hr4.out hf4.out hm hl HFM hfl hlt HER).mono ?_; rintro e w2 ⟨rfl, b2⟩)
              go_roundw
              case rel => exact ⟨q + 1, by omega, by go_num, HN, below_on hb b2⟩
              case measure => simp [intOf]; omega
            · have hre : r = er := by rw [HK2.out, fir_hit hlt (by rw [her]; exact h0), her]
              subst hre
              have n1 : ((r : Int) != 0) = true := by simp; omega
              clear her h0
              go_wp2_with (go_at_call 48; refine (checkField_any _ _ m ss _ _ _ fm fs q r _ hk4.out hr4.out hf4.out hm hl HFM hfl hlt HER).mono ?_; rintro e w2 ⟨rfl, b2⟩)
              go_ret
              exact ⟨rfl, below_on d4.out b2⟩
          · obtain rfl : r = 0 := by rw [HK2.out, fir_end (by omega)]
            go_wp2_with fail
            go_ret
            exact ⟨rfl, below_on D1.out hb⟩

end Go.Proofs.YtjgmhkplgenieaaDoor
