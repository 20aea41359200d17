/-
  CONTRACTS: Set and Make of package heap, at whatever heap, nil too: of what was there nothing has turned but the heap's own blocks.
-/
import Derived.Test.YtjgmhkplgenieaaDoorHGet
namespace Go.Proofs.YtjgmhkplgenieaaDoor
open Go.RowKit

def setH (H : Hp) (i k : Nat) (n : Int) : Hp := { H with obs := H.obs.set i { H.ob i with fs := (H.ob i).fs.set k n } }
def setO (H : Option Hp) (o f n : Int) : Option Hp := if askO H o f = 0 then H.map fun H => setH H (o - 1).toNat f.toNat n else H
theorem set_in {H : Hp} {i k : Nat} {n : Int} (hi : i < H.obs.length) (hk : k < H.wid i) : setO (some H) ((i : Int) + 1) (k : Int) n = some (setH H i k n) := by
  unfold setO
  rw [if_pos (ask_in hi hk), show ((i : Int) + 1 - 1).toNat = i by omega]; rfl
theorem set_no {H : Option Hp} {o f n : Int} (h : askO H o f ≠ 0) : setO H o f n = H := by unfold setO; rw [if_neg h]
/-- P, and what is new. -/
def Gr (P : Nat → Prop) (w w' : World) (k : Nat) : Prop := P k ∨ (w.heap.size ≤ k ∧ k < w'.heap.size)

theorem HM.set {w : World} {P : Nat → Prop} {hb : Nat} {H : Hp} {sv : Value} {g c m : Nat} (h : HM w P hb H sv (.slice (some ⟨g, 0, none⟩) m c)) {i k : Nat} (hi : i < H.obs.length) (hk : k < 8) (n : Int) :
    HM (w.setCell ⟨g, i * 9 + 1 + k, none⟩ (.int .i64 n)) P hb (setH H i k n) sv (.slice (some ⟨g, 0, none⟩) m c) ∧ Sv P w (w.setCell ⟨g, i * 9 + 1 + k, none⟩ (.int .i64 n)) := by
  obtain ⟨ob, s, h1, h2, h3, h4, h5, h6⟩ := ob_at h hi
  obtain ⟨pg, pn, ps⟩ := h.p2 g rfl
  have hsv : Sv (fun x => x = g) w (w.setCell ⟨g, i * 9 + 1 + k, none⟩ (.int .i64 n)) := (Sv.refl (fun x => x = g) w).setCell (p := ⟨g, i * 9 + 1 + k, none⟩) (.inl rfl) _
  obtain ⟨_, c', e1, _⟩ := own_form h.oo
  cases e1
  have hmem : ∀ a ∈ H.obs.set i { H.ob i with fs := (H.ob i).fs.set k n }, a ∈ H.obs ∨ a = { ob with fs := ob.fs.set k n } := by
    intro a ha
    rw [h3] at ha
    exact List.mem_or_eq_of_mem_set ha
  refine ⟨⟨⟨h.ok.ns, h.ok.wd, by show (List.set _ _ _).length ≤ _; rw [List.length_set]; exact h.ok.no, ?_, ?_⟩, (hsv.block hb h.lt (fun e => pn e.symm)).trans h.hd, own_sv h.so hsv (fun x hx e => ps (by rw [hx, e])), ?_, h.sn, ?_, h.p0, h.p1, h.p2⟩, hsv.mono (fun x hx => hx ▸ pg)⟩
  · intro a ha
    rcases hmem a ha with x | rfl
    · exact h.ok.sh a x
    · exact h.ok.sh ob (List.mem_of_getElem? h1)
  · intro a ha
    rcases hmem a ha with x | rfl
    · exact h.ok.fl a x
    · show (List.set _ _ _).length = 8
      rw [List.length_set]; exact h5
  · have := (h.oo.stored (i * 9 + 1 + k) (.int .i64 n)).1
    show World.ownsRow _ 0 79 9 _ (H.obs.set i _).length (obsV (H.obs.set i _))
    rw [List.length_set, h3]
    unfold obsV at this ⊢
    rw [show i * 9 + 1 + k = i * 9 + (1 + k) by omega, flat_set (a' := { ob with fs := ob.fs.set k n }) (fun a ha => obV_len (h.ok.fl a ha)) h1 (by omega) (by
      unfold obV
      rw [show 1 + k = k + 1 by omega, List.set_cons_succ, List.map_set])] at this
    rw [show i * 9 + 1 + k = i * 9 + (1 + k) by omega]
    exact this
  · intro e
    have := congrArg List.length e
    rw [show (setH H i k n).obs.length = H.obs.length from List.length_set] at this
    rw [this] at hi
    exact absurd hi (by simp)

set_option maxRecDepth 100000 in
set_option maxHeartbeats 1000000 in
theorem set_any (P : Nat → Prop) (v : Value) (H : Option Hp) (o f n : Int) (r : Nat) (w : World) (h : PM w P v H) (hr : Hid (askO H o f = r)) :
    Calls Tryd.prog 12 #[v, .int .i64 o, .int .i64 f, .int .i64 n] w fun e w' => e = .returned (.int .i64 r) ∧ Sv P w w' ∧ PM w' P v (setO H o f n) := by
  have HP := Lib.hid h
  clear h
  by_cases h0 : r = 0
  · subst h0
    obtain ⟨H, i, k, rfl, hi, rfl, rfl, hk⟩ := ask_zero hr.out
    obtain ⟨hb, sv, ov, rfl, hm⟩ := HP.out
    obtain ⟨ob, s, h1, h2, h3, h4, h5, h6⟩ := ob_at hm hi
    have hk8 : k < 8 := by unfold Hp.wid at hk; rw [h4] at hk; omega
    obtain ⟨og, oc, rfl, ho2, ho3⟩ := hm.oform hi
    have hno := hm.ok.no
    rw [set_in hi hk]
    obtain ⟨x, hx⟩ : ∃ x, ob.fs[k]? = some x := ⟨_, List.getElem?_eq_getElem (by omega)⟩
    have HX := Lib.hid hx
    have H1 := Lib.hid h1
    have HM := Lib.hid hm
    clear hm h1 h2 h3 h4 hk hx
    have hw : IntKind.i64.wrap ((i : Int) + 1 - 1) = (i : Int) := by rw [show (i : Int) + 1 - 1 = i by omega]; exact IntWalk.i64_in _ (by omega)
    go_enter Tryd.func12, Tryd.ntmps12
    go_wp2_with (go_at_call 29; refine (ask_any P _ _ _ _ 0 _ HP.out hr).mono ?_; rintro e w1 ⟨rfl, hb2⟩; refine Hid.out ?_)
    have hm2 := HM.out.below hb2
    have c1 := hm2.c1
    obtain ⟨-, d⟩ := hm2.orow H1.out
    have d1 := d k x HX.out
    clear d
    have hfz := hm2.oo.frozenAt (i * 9 + 1 + k)
    obtain ⟨hset, hsv⟩ := hm2.set hi hk8 n
    have HSET := Lib.hid hset
    clear hm2 hset
    have HI := Lib.hid hi
    generalize H.obs.length = m at *
    refine Lib.hid ?_
    go_wp2_with fail
    go_ret
    exact ⟨rfl, (Sv.of hb2).trans hsv (fun _ h => .inl h), hb, sv, _, rfl, HSET.out⟩
  · rw [set_no (by rw [hr.out]; exact h0)]
    have n1 : ((r : Int) != 0) = true := by simp; omega
    clear h0
    go_enter Tryd.func12, Tryd.ntmps12
    go_wp2_with (go_at_call 29; refine (ask_any P _ _ _ _ r _ HP.out hr).mono ?_; rintro e w' ⟨rfl, hb2⟩)
    go_ret
    exact ⟨rfl, Sv.of hb2, HP.out.below hb2⟩

def mkH (H : Hp) (s : Nat) : Hp := { H with obs := H.obs ++ [⟨s, [0, 0, 0, 0, 0, 0, 0, 0]⟩] }
/-- What Make answers: the heap, the object, the error. -/
def makeO (H : Option Hp) (nm : ByteArray) : Option Hp × Nat × Nat := match H with
  | none => (none, 0, 13)
  | some H => match fnd H.ss nm with
    | none => (some H, 0, 13)
    | some s => if 131072 ≤ H.obs.length then (some H, 0, 4) else (some (mkH H s), H.obs.length + 1, 0)
theorem obj_info : (Tryd.prog.info? 79).map (fun i => (i.zero, i.size, i.bytes)) = some (some (.agg #[.int .i64 0, .int .i64 0, .int .i64 0, .int .i64 0, .int .i64 0, .int .i64 0, .int .i64 0, .int .i64 0, .int .i64 0]), 9, 72) := by kernel_rfl

theorem zero_fs (s : Nat) : obV ⟨s, [0, 0, 0, 0, 0, 0, 0, 0]⟩ = [.int .i64 s, .int .i64 0, .int .i64 0, .int .i64 0, .int .i64 0, .int .i64 0, .int .i64 0, .int .i64 0, .int .i64 0] := rfl
theorem HM.make {w w6 : World} {P : Nat → Prop} {hb : Nat} {H : Hp} {sv ov : Value} {g cap s : Nat} {o : Obj} (h : HM w P hb H sv ov) (hs : s < H.ss.length) (hn : H.obs.length + 1 ≤ 131072) (hg : (w.alloc o).grownBy w6 ov.ownBlock)
    (ho : w6.ownsRow 0 79 9 (.slice (some ⟨g, 0, none⟩) (H.obs.length + 1) cap) (H.obs.length + 1) (obsV H.obs ++ obV ⟨s, [0, 0, 0, 0, 0, 0, 0, 0]⟩)) (hat : ov.ownBlock = some g ∨ g = w.heap.size + 1) :
    w6.heap[hb]? = some (.cells #[sv, ov] 67 (0, 0)) ∧ HM (w6.setCell ⟨hb, 1, none⟩ (.slice (some ⟨g, 0, none⟩) (H.obs.length + 1) cap)) (Gr P w (w6.setCell ⟨hb, 1, none⟩ (.slice (some ⟨g, 0, none⟩) (H.obs.length + 1) cap))) hb (mkH H s) sv (.slice (some ⟨g, 0, none⟩) (H.obs.length + 1) cap) ∧
      Sv P w (w6.setCell ⟨hb, 1, none⟩ (.slice (some ⟨g, 0, none⟩) (H.obs.length + 1) cap)) := by
  have hlt := h.lt
  have s0 : Sv (fun k => ov.ownBlock = some k) w w6 := ((Sv.refl _ w).alloc o).grown hg (fun k hk => .inl hk)
  have hhd : w6.heap[hb]? = some (.cells #[sv, ov] 67 (0, 0)) := (s0.block hb hlt (fun e => (h.p2 hb e).2.1 rfl)).trans h.hd
  have hgl := (ho.lt g rfl).2
  have hgb : g ≠ hb := by
    rcases hat with e | e
    · exact (h.p2 g e).2.1
    · omega
  have hsg : sv.ownBlock ≠ some g := by
    rcases hat with e | e
    · exact (h.p2 g e).2.2
    · intro e2; have := (h.so.lt g e2).2; omega
  have s1 : Sv (fun k => k = hb) w6 (w6.setCell ⟨hb, 1, none⟩ (.slice (some ⟨g, 0, none⟩) (H.obs.length + 1) cap)) := (Sv.refl (fun k => k = hb) w6).setCell (p := ⟨hb, 1, none⟩) (.inl rfl) _
  refine ⟨hhd, ⟨⟨h.ok.ns, h.ok.wd, by show (_ ++ _ : List Ob).length ≤ _; rw [List.length_append]; exact hn, ?_, ?_⟩, ?_, ?_, ?_, h.sn, ?_, .inl h.p0, fun x hx => ⟨.inl (h.p1 x hx).1, (h.p1 x hx).2⟩, ?_⟩, ?_⟩
  · intro a ha
    rcases List.mem_append.1 ha with x | x
    · exact h.ok.sh a x
    · obtain rfl := List.mem_singleton.1 x
      exact hs
  · intro a ha
    rcases List.mem_append.1 ha with x | x
    · exact h.ok.fl a x
    · obtain rfl := List.mem_singleton.1 x
      rfl
  · have := heap_setCell_same w6 hb 1 _ 67 (.slice (some ⟨g, 0, none⟩) (H.obs.length + 1) cap) hhd
    exact this
  · exact own_sv (own_sv h.so s0 (fun x hx e => (h.p2 x e).2.2 hx)) s1 (fun x hx e => (h.p1 x hx).2 e)
  · show World.ownsRow _ 0 79 9 _ (_ ++ _ : List Ob).length (obsV (_ ++ _))
    rw [List.length_append]
    unfold obsV
    rw [List.flatMap_append, List.flatMap_singleton]
    exact own_sv ho s1 (fun x hx e => by obtain rfl : g = x := Option.some.inj hx; exact hgb e)
  · intro e
    have := congrArg List.length e
    rw [show (mkH H s).obs.length = H.obs.length + 1 from List.length_append] at this
    cases this
  · intro x hx
    obtain rfl : g = x := Option.some.inj hx
    refine ⟨?_, hgb, hsg⟩
    rcases hat with e | e
    · exact .inl (h.p2 g e).1
    · exact .inr ⟨by omega, by simpa [World.setCell] using hgl⟩
  · exact (s0.mono (fun i hi => (h.p2 i hi).1)).trans s1 (fun i hi => by subst hi; exact .inl h.p0)

theorem hfind_nil (nm : ByteArray) (w : World) : Calls Tryd.prog 28 #[.pointer none, .string nm] w fun e w' => e = .returned (.tuple #[.int .i64 0, .bool false]) ∧ w = w' := by
  go_enter Tryd.func28, Tryd.ntmps28
  go_wp2_with fail
  go_ret2
  exact ⟨rfl, rfl⟩

set_option maxRecDepth 100000 in
set_option maxHeartbeats 1000000 in
theorem make_any (P : Nat → Prop) (v : Value) (H : Option Hp) (nm : ByteArray) (H' : Option Hp) (a r : Nat) (w : World) (h : PM w P v H) (hr : Hid (makeO H nm = (H', a, r))) :
    Calls Tryd.prog 10 #[v, .string nm] w fun e w' => e = .returned (.tuple #[.int .i64 a, .int .i64 r]) ∧ Sv P w w' ∧ PM w' (Gr P w w') v H' := by
  cases H with
  | none =>
    obtain rfl : v = .pointer none := h
    obtain ⟨rfl, rfl, rfl⟩ : none = H' ∧ 0 = a ∧ 13 = r := by have := hr.out; unfold makeO at this; simpa using this
    clear hr
    go_enter Tryd.func10, Tryd.ntmps10
    go_wp2_with (go_at_call 28; refine (hfind_nil nm _).mono ?_; rintro e w1 ⟨rfl, rfl⟩)
    go_ret2
    exact ⟨rfl, Sv.refl _ _, rfl⟩
  | some H =>
    obtain ⟨hb, sv, ov, rfl, hm⟩ := h
    have HM := Lib.hid hm
    have hq : (match fnd H.ss nm with | none => (some H, 0, 13) | some s => if 131072 ≤ H.obs.length then (some H, 0, 4) else (some (mkH H s), H.obs.length + 1, 0)) = (H', a, r) := hr.out
    cases hf : fnd H.ss nm with
    | none =>
      rw [hf] at hq
      obtain ⟨rfl, rfl, rfl⟩ : some H = H' ∧ 0 = a ∧ 13 = r := by simpa using hq
      have HF := Lib.hid hf
      clear hr hq hf hm
      go_enter Tryd.func10, Tryd.ntmps10
      go_wp2_with (go_at_call 28; refine (hfind_any P hb sv ov H nm none _ HM.out HF).mono ?_; rintro e w1 ⟨rfl, hw⟩; unfold foundV)
      go_ret2
      exact ⟨rfl, Sv.of hw, hb, sv, ov, rfl, (HM.out.below hw).mono (fun _ h => .inl h)⟩
    | some s =>
      rw [hf] at hq
      have HF := Lib.hid hf
      have HPM : ∀ w1, Below w.heap.size w w1 → PM w1 P (.pointer (some ⟨hb, 0, none⟩)) (some H) := fun w1 hw => ⟨hb, sv, ov, rfl, HM.out.below hw⟩
      have HPM := Lib.hid HPM
      by_cases hfull : 131072 ≤ H.obs.length
      · obtain ⟨rfl, rfl, rfl⟩ : some H = H' ∧ 0 = a ∧ 4 = r := by simpa [hfull] using hq
        clear hr hq hf hm
        have hfull' : (131072 : Int) ≤ (H.obs.length : Int) := by omega
        go_enter Tryd.func10, Tryd.ntmps10
        go_wp2_with (first | (go_at_call 28; refine (hfind_any P hb sv ov H nm (some s) _ HM.out HF).mono ?_; rintro e w1 ⟨rfl, hw⟩; unfold foundV) | (go_at_call 14; refine (len_any P _ (some H) _ (HPM.out _ hw)).mono ?_; rintro e w2 ⟨rfl, rfl⟩; unfold lenO))
        go_ret2
        exact ⟨rfl, Sv.of hw, hb, sv, ov, rfl, (HM.out.below hw).mono (fun _ h => .inl h)⟩
      · obtain ⟨rfl, rfl, rfl⟩ : some (mkH H s) = H' ∧ H.obs.length + 1 = a ∧ 0 = r := by simpa [hfull] using hq
        clear hr hq hf
        have hfd : decide ((131072 : Int) ≤ (H.obs.length : Int)) = false := decide_eq_false (by omega)
        have HFULL := Lib.hid hfull
        clear hfull
        obtain ⟨i0, hi0, hz0, hz1, hz2⟩ := info_parts obj_info
        have HI0 := Lib.hid hi0
        have HZ0 := Lib.hid hz0
        have HZ1 := Lib.hid hz1
        have HZ2 := Lib.hid hz2
        clear hi0 hz0 hz1 hz2
        obtain ⟨A, c, rfl, hc⟩ := own_form hm.oo
        clear hm
        go_enter Tryd.func10, Tryd.ntmps10
        go_wp2_with (first | (go_at_call 28; refine (hfind_any P hb sv _ H nm (some s) _ HM.out HF).mono ?_; rintro e w1 ⟨rfl, hw⟩; unfold foundV) | (go_at_call 14; refine (len_any P _ (some H) _ (HPM.out _ hw)).mono ?_; rintro e w2 ⟨rfl, rfl⟩; unfold lenO; refine Hid.out ?_))
        have hm1 := HM.out.below hw
        have c1 := hm1.c1
        have hlt := hm1.lt
        have HM1 := Lib.hid hm1
        clear hm1
        refine Lib.hid ?_
        go_wp2_with (first | (refine wpList_build_row rfl 79 _ rfl #[.int .i64 s, .int .i64 0, .int .i64 0, .int .i64 0, .int .i64 0, .int .i64 0, .int .i64 0, .int .i64 0, .int .i64 0] (by kernel_rfl) ?_; refine Hid.out ?_))
        refine Lib.hid ?_
        go_wp2_with (at_builtin; refine Hid.out ?_)
        have HSL : Hid (s < H.ss.length) := by
          obtain ⟨x, y, _⟩ := fst_some HF.out
          exact y
        have HOW := Lib.hid HM1.out.oo
        have HLE := Lib.hid (Nat.lt_of_not_le HFULL.out)
        refine Lib.hid ?_
        refine wpList_append_lies _ rfl (.tmp 23) (.tmp 26) _ rfl 0 79 i0 _ 9 72 Tryd.underlying65 HI0.out HZ0.out HZ1.out HZ2.out rfl (by omega) (.slice A H.obs.length c) H.obs.length (obsV H.obs) rfl (HOW.out.alloc _) ⟨w1.heap.size, 0, none⟩ 1 1 (obV ⟨s, [0, 0, 0, 0, 0, 0, 0, 0]⟩) rfl rfl (by exact World.news_of_block (heap_alloc_new w1 _)) (by rw [zero_fs]; simp [Value.oneCell']) (by omega) (by have := HLE.out; simp only [maxLen]; omega) (by have := HLE.out; omega) (by simp) (w1.heap.size + 1) (by simp) ?_
        intro g cap w6 hown hg hat hlt6
        obtain ⟨k1, k2, k3⟩ := HM1.out.make HSL.out HLE.out hg hown hat
        have q1 : w6.cell? ⟨hb, 1, none⟩ = some (.slice A H.obs.length c) := cell_of_row w6 hb 1 _ 67 (0, 0) k1
        have q2 : w6.frozen? ⟨hb, 1, none⟩ = false := frozen_of_row w6 hb 1 _ 67 k1
        have K2 := Lib.hid k2
        have K3 := Lib.hid k3
        clear k1 k2 k3 hown hg hat c1 hc
        have HPM7 : Hid (PM (w6.setCell ⟨hb, 1, none⟩ (.slice (some ⟨g, 0, none⟩) (H.obs.length + 1) cap)) (Gr P w1 (w6.setCell ⟨hb, 1, none⟩ (.slice (some ⟨g, 0, none⟩) (H.obs.length + 1) cap))) (.pointer (some ⟨hb, 0, none⟩)) (some (mkH H s))) := ⟨hb, sv, _, rfl, K2.out⟩
        have HL7 : lenO (some (mkH H s)) = H.obs.length + 1 := List.length_append
        have HL7 := Lib.hid HL7
        go_wp2_with (go_at_call 14; refine (len_any _ _ _ _ HPM7.out).mono ?_; rintro e w8 ⟨rfl, rfl⟩; rw [HL7.out])
        go_ret2
        exact ⟨rfl, (Sv.of hw).trans K3.out (fun _ h => .inl h), HPM7.out.mono (fun i hi => by
          rcases hi with x | ⟨x, y⟩
          · exact .inl x
          · exact .inr ⟨by have := hw.size; omega, y⟩)⟩

end Go.Proofs.YtjgmhkplgenieaaDoor
