/-
  CONTRACTS: Clone of package heap, with slices.Clone at its two rows: another heap with all the same, in blocks of its own. Conditions: none of our own.
-/
import Derived.Test.YtjgmhkplgenieaaDoorHWrite
import Derived.Deep.RegionHeld3
namespace Go.Proofs.YtjgmhkplgenieaaDoor
open Go.RowKit

theorem shp_info : (Tryd.prog.info? 70).map (fun i => (i.zero, i.size, i.bytes)) = some (some (.agg #[.string ⟨#[]⟩, .int .i64 0, .bool false, .bool false, .bool false, .bool false, .bool false, .bool false, .bool false, .bool false]), 10, 32) := by kernel_rfl

set_option maxRecDepth 100000 in
set_option maxHeartbeats 1000000 in
theorem clone_sh (v : Value) (n : Nat) (xs : List Value) (w : World) (ho : w.ownsRow 0 70 10 v n xs) (h0 : n = 0 → v = .slice none 0 0) (hl : n ≤ 131072) (h1 : ∀ u ∈ xs, u.oneCell' = true) :
    Calls Tryd.prog 35 #[v] w fun e w' => ∃ v', e = .returned v' ∧ Below w.heap.size w w' ∧ w'.ownsRow w.heap.size 70 10 v' n xs ∧ (n = 0 → v' = .slice none 0 0) := by
  cases n with
  | zero =>
    obtain rfl := h0 rfl
    have HO := Lib.hid ho
    have hq : ∀ w : World, (binOp BinOp.eql 64 (.slice none 0 0) (.slice none 0 0)).run Tryd.prog w = .ok (.bool true) w := fun _ => by kernel_rfl
    go_enter Tryd.func35, Tryd.ntmps35
    go_wp2_with fail
    go_ret
    refine ⟨.slice none 0 0, rfl, Below.refl _ _, ⟨HO.out.1, .inl ⟨rfl, rfl⟩⟩, ?_⟩
    first | rfl | (intro _; rfl)
  | succ n =>
    obtain ⟨g, cap, rfl, _, hg⟩ := ho.form (by omega)
    obtain ⟨i0, hi0, hz0, hz1, hz2⟩ := info_parts shp_info
    have HI0 := Lib.hid hi0
    have HZ0 := Lib.hid hz0
    have HZ1 := Lib.hid hz1
    have HZ2 := Lib.hid hz2
    have HO := Lib.hid ho
    have H1 := Lib.hid h1
    clear hi0 hz0 hz1 hz2 ho h1 h0
    have hq : ∀ w : World, (binOp BinOp.eql 64 (.slice (some ⟨g, 0, none⟩) (n + 1) cap) (.slice none 0 0)).run Tryd.prog w = .ok (.bool false) w := fun _ => by kernel_rfl
    go_enter Tryd.func35, Tryd.ntmps35
    go_wp2_with (at_builtin; refine Hid.out ?_)
    refine Lib.hid ?_
    have HOW := Lib.hid (World.ownsRow_lit (e := 70) (size := 10) (base := w.heap.size) w #[] 0 (Nat.le_refl _) (Nat.zero_le _) rfl)
    have HNW : Hid (∀ (j : Nat) (u : Value), xs[j]? = some u → (w.alloc (.cells #[] 70)).cell? ((⟨g, 0, none⟩ : Addr).add j) = some u) := by
      intro j u hj
      have hjl := (List.getElem?_eq_some_iff.1 hj).1
      have hx := HO.out.1
      have := HO.out.cellAt j (by omega)
      rw [hj] at this
      have e : (⟨g, 0, none⟩ : Addr).add j = ⟨g, j, none⟩ := by cases j <;> simp [Addr.add]
      rw [e]
      exact (World.cell?_of_block (w := w) (a := ⟨g, j, none⟩) (Below.heap_alloc _ _ _ hg)).trans this
    refine wpList_append_lies _ rfl (.tmp 5) (.tmp 6) _ rfl w.heap.size 70 i0 _ 10 32 Tryd.underlying64 HI0.out HZ0.out HZ1.out HZ2.out rfl (by omega) (.slice (some ⟨w.heap.size, 0, none⟩) 0 0) 0 [] rfl HOW.out ⟨g, 0, none⟩ (n + 1) cap xs rfl HO.out.1 HNW.out H1.out (by omega) (by simp only [maxLen]; omega) (by omega) (by simp) (w.heap.size + 1) (by simp) ?_
    intro g2 cap2 w6 hown hg2 hat hlt6
    have b6 : Below w.heap.size w w6 := ((Below.refl _ w).alloc (Nat.le_refl _) _).grown hg2 (by simp) (fun y hy => by obtain rfl := Option.some.inj hy; exact Nat.le_refl _)
    have HOW6 : Hid (w6.ownsRow w.heap.size 70 10 (.slice (some ⟨g2, 0, none⟩) (n + 1) cap2) (n + 1) xs) := by
      show World.ownsRow _ _ _ _ _ _ _
      rw [Nat.zero_add, List.nil_append] at hown
      exact hown
    rw [Nat.zero_add]
    clear hown hg2 hat HOW HNW
    go_wp2_with fail
    go_ret
    exact ⟨_, rfl, b6, HOW6.out, fun h => by cases h⟩

set_option maxRecDepth 100000 in
set_option maxHeartbeats 1000000 in
theorem clone_ob (v : Value) (n : Nat) (xs : List Value) (w : World) (ho : w.ownsRow 0 79 9 v n xs) (h0 : n = 0 → v = .slice none 0 0) (hl : n ≤ 131072) (h1 : ∀ u ∈ xs, u.oneCell' = true) :
    Calls Tryd.prog 36 #[v] w fun e w' => ∃ v', e = .returned v' ∧ Below w.heap.size w w' ∧ w'.ownsRow w.heap.size 79 9 v' n xs ∧ (n = 0 → v' = .slice none 0 0) := by
  cases n with
  | zero =>
    obtain rfl := h0 rfl
    have HO := Lib.hid ho
    have hq : ∀ w : World, (binOp BinOp.eql 65 (.slice none 0 0) (.slice none 0 0)).run Tryd.prog w = .ok (.bool true) w := fun _ => by kernel_rfl
    go_enter Tryd.func36, Tryd.ntmps36
    go_wp2_with fail
    go_ret
    refine ⟨.slice none 0 0, rfl, Below.refl _ _, ⟨HO.out.1, .inl ⟨rfl, rfl⟩⟩, ?_⟩
    first | rfl | (intro _; rfl)
  | succ n =>
    obtain ⟨g, cap, rfl, _, hg⟩ := ho.form (by omega)
    obtain ⟨i0, hi0, hz0, hz1, hz2⟩ := info_parts obj_info
    have HI0 := Lib.hid hi0
    have HZ0 := Lib.hid hz0
    have HZ1 := Lib.hid hz1
    have HZ2 := Lib.hid hz2
    have HO := Lib.hid ho
    have H1 := Lib.hid h1
    clear hi0 hz0 hz1 hz2 ho h1 h0
    have hq : ∀ w : World, (binOp BinOp.eql 65 (.slice (some ⟨g, 0, none⟩) (n + 1) cap) (.slice none 0 0)).run Tryd.prog w = .ok (.bool false) w := fun _ => by kernel_rfl
    go_enter Tryd.func36, Tryd.ntmps36
    go_wp2_with (at_builtin; refine Hid.out ?_)
    refine Lib.hid ?_
    have HOW := Lib.hid (World.ownsRow_lit (e := 79) (size := 9) (base := w.heap.size) w #[] 0 (Nat.le_refl _) (Nat.zero_le _) rfl)
    have HNW : Hid (∀ (j : Nat) (u : Value), xs[j]? = some u → (w.alloc (.cells #[] 79)).cell? ((⟨g, 0, none⟩ : Addr).add j) = some u) := by
      intro j u hj
      have hjl := (List.getElem?_eq_some_iff.1 hj).1
      have hx := HO.out.1
      have := HO.out.cellAt j (by omega)
      rw [hj] at this
      have e : (⟨g, 0, none⟩ : Addr).add j = ⟨g, j, none⟩ := by cases j <;> simp [Addr.add]
      rw [e]
      exact (World.cell?_of_block (w := w) (a := ⟨g, j, none⟩) (Below.heap_alloc _ _ _ hg)).trans this
    refine wpList_append_lies _ rfl (.tmp 5) (.tmp 6) _ rfl w.heap.size 79 i0 _ 9 72 Tryd.underlying65 HI0.out HZ0.out HZ1.out HZ2.out rfl (by omega) (.slice (some ⟨w.heap.size, 0, none⟩) 0 0) 0 [] rfl HOW.out ⟨g, 0, none⟩ (n + 1) cap xs rfl HO.out.1 HNW.out H1.out (by omega) (by simp only [maxLen]; omega) (by omega) (by simp) (w.heap.size + 1) (by simp) ?_
    intro g2 cap2 w6 hown hg2 hat hlt6
    have b6 : Below w.heap.size w w6 := ((Below.refl _ w).alloc (Nat.le_refl _) _).grown hg2 (by simp) (fun y hy => by obtain rfl := Option.some.inj hy; exact Nat.le_refl _)
    have HOW6 : Hid (w6.ownsRow w.heap.size 79 9 (.slice (some ⟨g2, 0, none⟩) (n + 1) cap2) (n + 1) xs) := by
      show World.ownsRow _ _ _ _ _ _ _
      rw [Nat.zero_add, List.nil_append] at hown
      exact hown
    rw [Nat.zero_add]
    clear hown hg2 hat HOW HNW
    go_wp2_with fail
    go_ret
    exact ⟨_, rfl, b6, HOW6.out, fun h => by cases h⟩

theorem shsV_one (l : List Str) : ∀ u ∈ shsV l, u.oneCell' = true := by
  intro u hu
  unfold shsV at hu
  obtain ⟨s, _, hu⟩ := List.mem_flatMap.1 hu
  unfold shV at hu
  rcases List.mem_cons.1 hu with rfl | hu
  · rfl
  rcases List.mem_cons.1 hu with rfl | hu
  · rfl
  obtain ⟨k, _, rfl⟩ := List.mem_map.1 hu
  rfl
theorem obsV_one (l : List Ob) : ∀ u ∈ obsV l, u.oneCell' = true := by
  intro u hu
  unfold obsV at hu
  obtain ⟨s, _, hu⟩ := List.mem_flatMap.1 hu
  unfold obV at hu
  rcases List.mem_cons.1 hu with rfl | hu
  · rfl
  obtain ⟨k, _, rfl⟩ := List.mem_map.1 hu
  rfl
/-- What is new. -/
def Nw (w w' : World) (k : Nat) : Prop := w.heap.size ≤ k ∧ k < w'.heap.size

theorem own_mono {w : World} {base base' : Nat} {e : TypeId} {size : Nat} {v : Value} {n : Nat} {xs : List Value} (h : w.ownsRow base e size v n xs) (hb : base' ≤ base) : w.ownsRow base' e size v n xs := by
  refine ⟨h.1, ?_⟩
  rcases h.2 with h2 | ⟨g, cap, cur, h2, h3, h4⟩
  · exact .inl h2
  · exact .inr ⟨g, cap, cur, h2, Nat.le_trans hb h3, h4⟩

theorem HM.clone {w w2 w3 : World} {P : Nat → Prop} {hb : Nat} {H : Hp} {sv ov s2 o2 : Value} (h : HM w P hb H sv ov) (b2 : Below w.heap.size w w2) (h2 : w2.ownsRow w.heap.size 70 10 s2 H.ss.length (shsV H.ss)) (z2 : H.ss.length = 0 → s2 = .slice none 0 0)
    (b3 : Below w2.heap.size w2 w3) (h3 : w3.ownsRow w2.heap.size 79 9 o2 H.obs.length (obsV H.obs)) (z3 : H.obs.length = 0 → o2 = .slice none 0 0) : HM (w3.alloc (.cells #[s2, o2] 67)) (Nw w (w3.alloc (.cells #[s2, o2] 67))) w3.heap.size H s2 o2 := by
  have hz : (w3.alloc (.cells #[s2, o2] 67)).heap.size = w3.heap.size + 1 := by simp
  have e2 := b2.size
  have e3 := b3.size
  have f3 : w3.ownsRow w.heap.size 70 10 s2 H.ss.length (shsV H.ss) := own_sv h2 (Sv.of (P := fun _ => False) b3) (fun _ _ => id)
  refine ⟨h.ok, heap_alloc_new w3 _, own_mono (f3.alloc _) (Nat.zero_le _), own_mono (h3.alloc _) (Nat.zero_le _), fun e => z2 (by rw [e]; rfl), fun e => z3 (by rw [e]; rfl), ⟨by omega, by omega⟩, fun g hg => ?_, fun g hg => ?_⟩
  · have := f3.lt g hg
    exact ⟨⟨this.1, by omega⟩, by omega⟩
  · have := h3.lt g hg
    refine ⟨⟨by omega, by omega⟩, by omega, fun e => ?_⟩
    have := h2.lt g e
    omega

set_option maxRecDepth 100000 in
set_option maxHeartbeats 4000000 in
theorem clone_any (P : Nat → Prop) (v : Value) (H : Option Hp) (w : World) (h : PM w P v H) :
    Calls Tryd.prog 17 #[v] w fun e w' => ∃ v', e = .returned v' ∧ Below w.heap.size w w' ∧ PM w' (Nw w w') v' H := by
  cases H with
  | none =>
    obtain rfl : v = .pointer none := h
    go_enter Tryd.func17, Tryd.ntmps17
    go_wp2_with fail
    go_ret
    exact ⟨_, rfl, Below.refl _ _, rfl⟩
  | some H =>
    obtain ⟨hb, sv, ov, rfl, hm⟩ := h
    have c0 := hm.c0
    have c1 := hm.c1
    have hlt := hm.lt
    have HM := Lib.hid hm
    clear hm
    go_enter Tryd.func17, Tryd.ntmps17
    have hn := HM.out.ok
    have HC1 : Hid (∀ w', Below w.heap.size w w' → Calls Tryd.prog 35 #[sv] w' fun e w2 => ∃ A c, e = .returned (.slice A H.ss.length c) ∧ w2.cell? ⟨hb, 1, none⟩ = some ov ∧ Below w.heap.size w w2 ∧ w2.ownsRow w.heap.size 70 10 (.slice A H.ss.length c) H.ss.length (shsV H.ss) ∧ (H.ss.length = 0 → Value.slice A H.ss.length c = .slice none 0 0)) := by
      intro w' hb2
      refine (clone_sh sv H.ss.length (shsV H.ss) w' (HM.out.below hb2).so (fun h => HM.out.sn (List.length_eq_zero_iff.1 h)) (by have := hn.ns; omega) (shsV_one _)).mono ?_
      rintro e w2 ⟨v', rfl, b, o, z⟩
      have bb := hb2.trans (b.mono hb2.size)
      obtain ⟨A, c, rfl, _⟩ := own_form o
      exact ⟨A, c, rfl, (HM.out.below bb).c1, bb, own_mono o hb2.size, z⟩
    have HC2 : Hid (∀ w', Below w.heap.size w w' → Calls Tryd.prog 36 #[ov] w' fun e w2 => ∃ A c, e = .returned (.slice A H.obs.length c) ∧ Below w'.heap.size w' w2 ∧ w2.ownsRow w'.heap.size 79 9 (.slice A H.obs.length c) H.obs.length (obsV H.obs) ∧ (H.obs.length = 0 → Value.slice A H.obs.length c = .slice none 0 0)) := by
      intro w' hb2
      refine (clone_ob ov H.obs.length (obsV H.obs) w' (HM.out.below hb2).oo (fun h => HM.out.on (List.length_eq_zero_iff.1 h)) hn.no (obsV_one _)).mono ?_
      rintro e w2 ⟨v', rfl, b, o, z⟩
      obtain ⟨A, c, rfl, _⟩ := own_form o
      exact ⟨A, c, rfl, b, o, z⟩
    clear hn
    go_wp2_with fail
    go_region_with (first | (go_at_call 35; refine (HC1.out _ (by first | exact Below.refl _ _ | exact (Below.refl _ _).drew)).mono ?_; rintro e w2 ⟨A2, k2, rfl, d1, b2, o2, z2⟩) | (go_at_call 36; refine (HC2.out _ (by first | exact b2 | exact b2.drew)).mono ?_; rintro e w3 ⟨A3, k3, rfl, b3, o3, z3⟩))
    all_goals
      have hcl := HM.out.clone b2 o2 z2 b3 o3 z3
      have HCL := Lib.hid hcl
      clear hcl
      go_wp2_with fail
      go_ret
      exact ⟨_, rfl, (b2.trans (b3.mono b2.size)).alloc (Nat.le_trans b2.size b3.size) _, w3.heap.size, _, _, rfl, HCL.out⟩

end Go.Proofs.YtjgmhkplgenieaaDoor
