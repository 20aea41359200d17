/-
  CONTRACT: Make of the document's own heap (truantref06). Conditions: none of our own.
-/
import Derived.Test.YtjgmhkplgenieaaDoorUGet
import Derived.Test.YtjgmhkplgenieaaDoorFind
import Derived.Deep.RegionLaw
namespace Go.Proofs.YtjgmhkplgenieaaDoor
open Go.RowKit

theorem Sv.drew {P : Nat → Prop} {a w : World} (h : Sv P a w) : Sv P a w.drew := ⟨h.os, h.tape, h.output, h.size, h.block⟩
theorem new_second (w : World) (o o' : Obj) : ((w.alloc o).alloc o').drew.heap[w.heap.size + 1]? = some o' := by
  have h := heap_alloc_new (w.alloc o) o'
  rw [show (w.alloc o).heap.size = w.heap.size + 1 by simp] at h
  exact h
def z8 : List Int := [0, 0, 0, 0, 0, 0, 0, 0]
theorem z8_take (n : Nat) (h : n ≤ 8) : intsU (z8.take n) = List.replicate n (.int .i64 0) := by
  match n, h with
  | 0, _ => rfl
  | 1, _ => rfl
  | 2, _ => rfl
  | 3, _ => rfl
  | 4, _ => rfl
  | 5, _ => rfl
  | 6, _ => rfl
  | 7, _ => rfl
  | 8, _ => rfl
theorem make_row (fl : Nat) (h : fl ≤ 8) : ∃ ZC : Array Value, ZC.toList = intsU (z8.take fl) ∧ ZC.size = fl ∧ ∀ w : World, (Instr.makeSlice 24 (.int .i64 fl) (.int .i64 fl)).run Tryd.prog w = .ok (.slice (some ⟨w.heap.size, 0, none⟩) fl fl) (w.alloc (.cells ZC 3)) := by
  obtain ⟨i, hi, hz, hs, hb⟩ := info_parts int_info
  refine ⟨madeCells #[.int .i64 0] fl, by rw [z8_take _ h, toList_madeCells_one], size_madeCells _ _, fun w => ?_⟩
  have := run_make (P := Tryd.prog) w 24 3 i (.int .i64 0) Tryd.underlying24 hi hz .i64 .i64 fl fl (by omega) (Int.le_refl _) (by rw [hb]; omega) (by omega)
  rw [this]
  simp only [Int.toNat_natCast, hs, Nat.mul_one]; rfl
theorem UM.make {w w6 : World} {P : Nat → Prop} {ub m c : Nat} {A : Option Addr} {H : Hp} {lv : Value} {zs : List (Ob × Nat)} {g cap s fl n : Nat} {ZC : Array Value} {ob : Obj} (h : UM w P ub A m c H lv zs) (hs : s < H.ss.length) (hn : n + 1 ≤ 131072) (hL : H.obs.length = n)
    (hZ : ZC.toList = intsU (z8.take fl)) (hZs : ZC.size = fl) (hfl : wdS H.ss ⟨s, z8⟩ = fl) (hfl8 : fl ≤ 8)
    (hg : ((w.alloc (.cells ZC 3)).alloc ob).grownBy w6 lv.ownBlock)
    (ho : w6.ownsRow 0 54 2 (.slice (some ⟨g, 0, none⟩) (n + 1) cap) (n + 1) (uVs H.ss zs ++ [.int .i64 s, .slice (some ⟨w.heap.size, 0, none⟩) fl fl])) (hat : lv.ownBlock = some g ∨ g = w.heap.size + 2) (hgl : g < w6.heap.size) :
    w6.heap[ub]? = some (.cells #[.slice A m c, lv] 44 (0, 0)) ∧
      UM (w6.setCell ⟨ub, 1, none⟩ (.slice (some ⟨g, 0, none⟩) (n + 1) cap)) (Gr P w (w6.setCell ⟨ub, 1, none⟩ (.slice (some ⟨g, 0, none⟩) (n + 1) cap))) ub A m c (mkH H s) (.slice (some ⟨g, 0, none⟩) (n + 1) cap) (zs ++ [(⟨s, z8⟩, w.heap.size)]) ∧
      Sv P w (w6.setCell ⟨ub, 1, none⟩ (.slice (some ⟨g, 0, none⟩) (n + 1) cap)) := by
  have s1 : Sv P w w6 := ((Sv.refl P w).alloc (.cells ZC 3)).alloc ob |>.grown hg (fun k hk => .inl (h.p1 k hk).1)
  have s2 : Sv (fun k => lv.ownBlock = some k) w w6 := ((Sv.refl _ w).alloc (.cells ZC 3)).alloc ob |>.grown hg (fun k hk => .inl hk)
  have hz6 : w.heap.size + 2 ≤ w6.heap.size := by have := hg.size; simp at this; omega
  have hub := h.lt
  have h6 : w6.heap[ub]? = some (.cells #[.slice A m c, lv] 44 (0, 0)) := (s2.block ub hub (fun e => (h.p1 ub e).2 rfl)).trans h.hd
  have s3 : Sv (fun k => k = ub) w6 (w6.setCell ⟨ub, 1, none⟩ (.slice (some ⟨g, 0, none⟩) (n + 1) cap)) := (Sv.refl (fun k => k = ub) w6).setCell (p := ⟨ub, 1, none⟩) (.inl rfl) _
  have s4 : Sv P w (w6.setCell ⟨ub, 1, none⟩ (.slice (some ⟨g, 0, none⟩) (n + 1) cap)) := s1.trans s3 (fun i hi => .inl (hi ▸ h.p0))
  have hlen := h.len
  have hgu : g ≠ ub := by
    rcases hat with e | e
    · exact (h.p1 g e).2
    · omega
  have hzl : ∀ (i : Nat) o x, (zs ++ [((⟨s, z8⟩ : Ob), w.heap.size)])[i]? = some (o, x) → (zs[i]? = some (o, x) ∧ x < w.heap.size) ∨ (i = n ∧ o = ⟨s, z8⟩ ∧ x = w.heap.size) := by
    intro i o x hi
    rw [List.getElem?_append] at hi
    split at hi
    · exact .inl ⟨hi, ((h.fr i o x hi).lt x rfl).2⟩
    · have : i - zs.length = 0 := by
        have := (List.getElem?_eq_some_iff.1 hi).1
        simp at this; omega
      rw [this] at hi
      cases hi
      exact .inr ⟨by omega, rfl, rfl⟩
  refine ⟨h6, ⟨⟨h.ok.ns, h.ok.wd, by show (List.append _ _).length ≤ _; rw [List.append_eq, List.length_append]; simp only [List.length_cons, List.length_nil]; omega, ?_, ?_⟩, h.hm, heap_setCell_same w6 ub 1 _ 44 _ h6, ?_, ?_, ?_, ?_, ?_, .inl h.p0, ?_⟩, s4⟩
  · intro a ha
    rcases List.mem_append.1 ha with x | x
    · exact h.ok.sh a x
    · rw [List.mem_singleton.1 x]; exact hs
  · intro a ha
    rcases List.mem_append.1 ha with x | x
    · exact h.ok.fl a x
    · rw [List.mem_singleton.1 x]; rfl
  · have e : (zs ++ [((⟨s, z8⟩ : Ob), w.heap.size)]).length = n + 1 := by rw [List.length_append, hlen, hL]; rfl
    rw [e]
    have e2 : uVs (mkH H s).ss (zs ++ [((⟨s, z8⟩ : Ob), w.heap.size)]) = uVs H.ss zs ++ [.int .i64 s, .slice (some ⟨w.heap.size, 0, none⟩) fl fl] := by
      show uVs H.ss _ = _
      unfold uVs
      rw [List.flatMap_append, List.flatMap_singleton]
      unfold uV
      rw [hfl]
    rw [e2]
    exact own_sv ho s3 (fun y hy e => by cases hy; exact hgu e)
  · show List.map _ _ = H.obs ++ _
    rw [List.map_append, h.hz]; rfl
  · intro i o x hi
    show World.ownsRow _ 0 3 1 (.slice _ (wdS H.ss o) (wdS H.ss o)) (wdS H.ss o) (intsU (uF H.ss o))
    rcases hzl i o x hi with ⟨hi', hx⟩ | ⟨rfl, rfl, rfl⟩
    · have h1 := own_sv (h.fr i o x hi') s2 (fun y hy e => by cases hy; exact (h.fp i o _ hi').2.2 e)
      exact own_sv h1 s3 (fun y hy e => by cases hy; exact (h.fp i o _ hi').2.1 e)
    · have h1 := World.ownsRow_lit (base := 0) (e := 3) (size := 1) w ZC fl (Nat.zero_le _) (by simp only [maxLen]; omega) (by omega)
      rw [hZ] at h1
      have e : uF H.ss ⟨s, z8⟩ = z8.take fl := by unfold uF; rw [hfl]
      rw [e, hfl]
      have s5 : Sv (fun k => lv.ownBlock = some k) (w.alloc (.cells ZC 3)) w6 := ((Sv.refl _ _).alloc ob).grown hg (fun k hk => .inl hk)
      have h2 := own_sv h1 s5 (fun y hy e => by cases hy; exact absurd (h.lo.lt _ e).2 (Nat.lt_irrefl _))
      exact own_sv h2 s3 (fun y hy e => by cases hy; exact absurd (show w.heap.size = ub from e) (by omega))
  · intro i o x hi
    have hz7 : (w6.setCell ⟨ub, 1, none⟩ (.slice (some ⟨g, 0, none⟩) (n + 1) cap)).heap.size = w6.heap.size := by simp [World.setCell]
    rcases hzl i o x hi with ⟨hi', hx⟩ | ⟨rfl, rfl, rfl⟩
    · obtain ⟨q1, q2, q3⟩ := h.fp i o x hi'
      refine ⟨.inl q1, q2, fun e => ?_⟩
      have e2 : g = x := Option.some.inj e
      rcases hat with e3 | e3
      · exact q3 (by rw [e3, e2])
      · omega
    · refine ⟨.inr ⟨Nat.le_refl _, by omega⟩, by omega, fun e => ?_⟩
      have e2 : g = w.heap.size := Option.some.inj e
      rcases hat with e3 | e3
      · have := (h.lo.lt _ e3).2; omega
      · omega
  · intro i j o o' x h1 h2
    rcases hzl i o x h1 with ⟨h1', hx⟩ | ⟨rfl, rfl, rfl⟩
    · rcases hzl j o' x h2 with ⟨h2', hx2⟩ | ⟨rfl, rfl, rfl⟩
      · exact h.nd i j o o' x h1' h2'
      · omega
    · rcases hzl j o' _ h2 with ⟨h2', hx2⟩ | ⟨rfl, _, _⟩
      · omega
      · rfl
  · intro y hy
    have e : g = y := Option.some.inj hy
    subst e
    have hz7 : (w6.setCell ⟨ub, 1, none⟩ (.slice (some ⟨g, 0, none⟩) (n + 1) cap)).heap.size = w6.heap.size := by simp [World.setCell]
    refine ⟨?_, hgu⟩
    rcases hat with e | e
    · exact .inl (h.p1 g e).1
    · exact .inr ⟨by omega, by omega⟩
theorem uobj_info : (Tryd.prog.info? 54).map (fun i => (i.zero, i.size, i.bytes)) = some (some (.agg #[.int .i64 0, .slice none 0 0]), 2, 32) := by kernel_rfl

set_option maxRecDepth 100000 in
set_option maxHeartbeats 1000000 in
theorem umake_any (P : Nat → Prop) (ub m c : Nat) (A : Option Addr) (H H' : Hp) (lv : Value) (zs : List (Ob × Nat)) (nm : ByteArray) (a r : Nat) (w : World) (h : UM w P ub A m c H lv zs) (hR : Hid (SR w A H.ss)) (hr : Hid (makeO (some H) nm = (some H', a, r))) :
    Calls Tryd.prog 18 #[.pointer (some ⟨ub, 0, none⟩), .string nm] w fun e w' => e = .returned (.tuple #[.int .i64 a, .int .i64 r]) ∧ Sv P w w' ∧ ∃ lv' zs', UM w' (Gr P w w') ub A m c H' lv' zs' := by
  have HU := Lib.hid h
  have c0 := h.c0
  have c1 := h.c1
  have f1 := h.f1
  have hm : Hid (H.ss.length = m) := h.hm
  have hm12 : m ≤ 12 := by rw [← h.hm]; exact h.ok.ns
  have hlt := h.lt
  have hno := h.ok.no
  obtain ⟨B, k, rfl, hk⟩ := h.lform
  have hq : (match fnd H.ss nm with | none => (some H, 0, 13) | some s => if 131072 ≤ H.obs.length then (some H, 0, 4) else (some (mkH H s), H.obs.length + 1, 0)) = (some H', a, r) := hr.out
  cases hf : fnd H.ss nm with
  | none =>
    rw [hf] at hq
    obtain ⟨rfl, rfl, rfl⟩ : H = H' ∧ 0 = a ∧ 13 = r := by simpa using hq
    have HF := Lib.hid hf
    clear hr hq hf h
    generalize H.obs.length = n at *
    go_enter Tryd.func18, Tryd.ntmps18
    go_wp2_with (go_at_call 26; refine (refFind_any A c m H.ss nm none _ hR.out hm (by omega) HF).mono ?_; rintro e w' ⟨rfl, rfl⟩; unfold foundI)
    go_ret2
    exact ⟨rfl, Sv.refl _ _, _, _, HU.out.mono (fun _ h => .inl h)⟩
  | some s =>
    rw [hf] at hq
    have HF := Lib.hid hf
    by_cases hfull : 131072 ≤ H.obs.length
    · obtain ⟨rfl, rfl, rfl⟩ : H = H' ∧ 0 = a ∧ 4 = r := by simpa [hfull] using hq
      have hfull' : (131072 : Int) ≤ (H.obs.length : Int) := by omega
      clear hr hq hf h
      generalize H.obs.length = n at *
      go_enter Tryd.func18, Tryd.ntmps18
      go_wp2_with (go_at_call 26; refine (refFind_any A c m H.ss nm (some s) _ hR.out hm (by omega) HF).mono ?_; rintro e w' ⟨rfl, rfl⟩; unfold foundI)
      go_ret2
      exact ⟨rfl, Sv.refl _ _, _, _, HU.out.mono (fun _ h => .inl h)⟩
    · obtain ⟨rfl, rfl, rfl⟩ : mkH H s = H' ∧ H.obs.length + 1 = a ∧ 0 = r := by simpa [hfull] using hq
      have hfd : decide ((131072 : Int) ≤ (H.obs.length : Int)) = false := decide_eq_false (by omega)
      obtain ⟨hs1, hs2, hs3⟩ := fst_some hf
      obtain ⟨st, hst⟩ : ∃ st, H.ss[s]? = some st := ⟨_, List.getElem?_eq_getElem (by omega)⟩
      obtain ⟨sb, so, rfl, hsb, hsc⟩ := hR.out (by omega)
      obtain ⟨FA, fc, x0, x1, x2, x3, x4⟩ := hsc s st hst
      have hs0 : (0 : Int) ≤ (s : Int) := by omega
      have hsm : (s : Int) < (m : Int) := by have := hm.out; omega
      have hw8 : st.fields.length ≤ 8 := h.ok.wd st (List.mem_of_getElem? hst)
      have hwd : wdS H.ss ⟨s, z8⟩ = st.fields.length := by unfold wdS; rw [List.getD_eq_getElem?_getD, hst]; rfl
      have HWD := Lib.hid hwd
      have HXL := Lib.hid (h.lo)
      have HLEN := Lib.hid h.len
      have HFULL := Lib.hid (Nat.lt_of_not_le hfull)
      have HSL : Hid (s < H.ss.length) := hs2
      obtain ⟨i0, hi0, hz0, hz1, hz2⟩ := info_parts uobj_info
      have HI0 := Lib.hid hi0
      have HZ0 := Lib.hid hz0
      have HZ1 := Lib.hid hz1
      have HZ2 := Lib.hid hz2
      clear hi0 hz0 hz1 hz2 hwd hr hq hf h hk hs1 hs2 hs3 hst hsc x4 hfull
      generalize hL : H.obs.length = n at *
      generalize hfl : st.fields.length = fl at *
      have HL := Lib.hid hL
      have HFL := Lib.hid hfl
      have HXL2 : Hid (w.ownsRow 0 54 2 (.slice B n k) n (uVs H.ss zs)) := by
        have := HXL.out
        rw [HLEN.out] at this
        exact this
      obtain ⟨ZC, hzc1, hzc2, hmk⟩ := make_row fl hw8
      have HZC1 := Lib.hid hzc1
      have HZC2 := Lib.hid hzc2
      have HFLX : Hid (fl ≤ 8) := hw8
      clear hL hfl hzc1 hzc2
      go_enter Tryd.func18, Tryd.ntmps18
      go_wp2_with (go_at_call 26; refine (refFind_any _ c m H.ss nm (some s) _ hR.out hm (by omega) HF).mono ?_; rintro e w' ⟨rfl, rfl⟩; unfold foundI)
      go_region_law (first
          | (refine step_append_lies _ rfl (.tmp 25) (.tmp 38) _ rfl 0 54 i0 _ 2 32 Tryd.underlying42 HI0.out HZ0.out HZ1.out HZ2.out rfl (by omega) (.slice B n k) n (uVs H.ss zs) rfl (own_sv HXL2.out (((Sv.refl (fun _ => False) _).alloc _).alloc _).drew (fun _ _ h => h)) ⟨w.heap.size + 1, 0, none⟩ 1 1 [.int .i64 s, .slice (some ⟨w.heap.size, 0, none⟩) fl fl] rfl rfl (by exact World.news_of_block (cs := #[.int .i64 s, .slice (some ⟨w.heap.size, 0, none⟩) fl fl]) (new_second w _ _)) (by simp [Value.oneCell']) (by omega) (by have := HFULL.out; simp only [maxLen]; omega) (by have := HFULL.out; omega) (by simp) (w.heap.size + 2) (by simp) ?_; intro g cap w6 hown hg hat hlt6; have hmm := Lib.hid (HU.out.make HSL.out HFULL.out HL.out HZC1.out HZC2.out HWD.out HFLX.out ⟨hg.os, hg.tape, hg.output, hg.size, hg.block⟩ hown hat hlt6); have q1 : w6.cell? ⟨ub, 1, none⟩ = some (.slice B n k) := cell_of_row w6 ub 1 _ 44 (0, 0) hmm.out.1; have q2 : w6.frozen? ⟨ub, 1, none⟩ = false := frozen_of_row w6 ub 1 _ 44 hmm.out.1; clear hown hg hat))
      all_goals
        have um := hmm.out.2.1
        have q3 := um.c1
        have UMM := Lib.hid um
        have SVV := Lib.hid hmm.out.2.2
        clear um hmm
        go_wp2_with fail
        go_ret2
        exact ⟨rfl, SVV.out, _, _, UMM.out⟩

end Go.Proofs.YtjgmhkplgenieaaDoor
