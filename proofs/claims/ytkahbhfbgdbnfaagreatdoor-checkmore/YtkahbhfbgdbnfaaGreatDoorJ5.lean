/-
  CONTRACTS: newNode; typeText, typed, named of the reader. Nobody but the reader's own block has turned.
-/
import Derived.Test.YtkahbhfbgdbnfaaGreatDoorJ4
import Derived.Deep.RegionHeld3
import Derived.RegionDies
import Derived.Deep.RegionWith
import Derived.Test.YtkahbhfbgdbnfaaGreatDoorJ3
import Derived.WalkKit
import Derived.WalkSpells
import Derived.WalkLawsBesides
import Derived.Lib.Hide
namespace Go.Proofs.YtkahbhfbgdbnfaaGreatDoor
open Go.RowKit

structure RowAt (w : World) (b : Nat) (op : Int) (name typ : ByteArray) (n p : Int) (kv : Value) : Prop where
  lt : b < w.heap.size
  h0 : w.cell? ⟨b, 0, none⟩ = some (.int .i64 op)
  h1 : w.cell? ⟨b, 1, none⟩ = some (.string name)
  h2 : w.cell? ⟨b, 2, none⟩ = some (.string typ)
  h3 : w.cell? ⟨b, 3, none⟩ = some (.int .i64 n)
  h4 : w.cell? ⟨b, 4, none⟩ = some (.int .i64 p)
  h5 : w.cell? ⟨b, 5, none⟩ = some kv

theorem slice_of {w : World} {base : Nat} {e : TypeId} {v : Value} {n : Nat} {xs : List Value} (h : w.ownsRow base e 1 v n xs) : ∃ A c, v = .slice A n c ∧ n ≤ c ∧ (0 < n → ∃ g, A = some ⟨g, 0, none⟩ ∧ v.ownBlock = some g) := by
  rcases h.2 with ⟨rfl, h0⟩ | ⟨g, cap, cur, rfl, h1, h2, h3, h4⟩
  · exact ⟨none, 0, by rw [h0], by omega, fun h => by omega⟩
  · exact ⟨_, cap, rfl, h3, fun _ => ⟨g, rfl, rfl⟩⟩

theorem node_mk {ok ok' : Nat → Prop} {pl : Nat → Nat} {w w' : World} {v : Value} {n : Nat} {ts : List Tree} {b op : Nat} {name typ : List UInt8} {num : Int} {pos : Nat} (hk : KidsIn ok pl w v n ts) (hb : Below w.heap.size w w') (hr : RowAt w' b op ⟨name.toArray⟩ ⟨typ.toArray⟩ num (pl pos) v) (hbok : ok' b) (hok : ∀ x, ok x → x < w.heap.size → ok' x) (hn : n ≤ 6000) : NodeAt ok' pl w' b (.mk op name typ num pos ts) := by
  obtain ⟨bs, h1, h2, h3, h4, h5⟩ := hk
  obtain ⟨A, c, hv, hc, hA⟩ := slice_of h1
  subst hv
  have h6 := hr.h5
  rw [← h3] at h6
  refine .mk A c bs hr.lt hbok hr.h0 hr.h1 hr.h2 hr.h3 hr.h4 h6 (by omega) (by omega) (by omega) ?_ ?_
  · intro k x hx
    have hkn : k < n := by rw [← h2]; exact (List.getElem?_eq_some_iff.1 hx).1
    obtain ⟨g, hg1, hg2⟩ := hA (by omega)
    have hlt := (h1.lt g hg2).2
    refine ⟨g, hg1, Nat.lt_of_lt_of_le hlt hb.size, hok g (h4 g hg2) hlt, ?_⟩
    rw [hb.cell (p := ⟨g, k, none⟩) hlt]
    subst hg1
    rw [h1.cellAt k (by omega)]
    unfold ptrsOf
    rw [List.getElem?_map, hx]; rfl
  · intro k x t hx ht
    exact (h5 k x t hx ht).keep (Keeps.below hb) fun b hb hl => hok b hb.1 hl

theorem vn_end {E : Env} {w w' : World} {b : Nat} {t : Tree} (h : NodeAt (fun x => w.heap.size < x) E.pl w' b t) (u : Value) : VN E w.heap.size t (nodeV b) (w'.setCell ⟨w.heap.size, 0, none⟩ u) :=
  ⟨b, rfl, h.keep (Keeps.set _ _ _ (Nat.lt_irrefl _)) fun _ h _ => Nat.le_of_lt h⟩

/-- What newNode leaves: a node in a new block, which reads so. -/
def NewQ (op : Int) (name typ : ByteArray) (n p : Int) (kv : Value) (w : World) (e : Ending) (w' : World) : Prop :=
  e = .returned (nodeV w.heap.size) ∧ Below w.heap.size w w' ∧ RowAt w' w.heap.size op name typ n p kv

set_option maxRecDepth 100000 in
set_option maxHeartbeats 400000 in
theorem newNode_any (w : World) (op : Int) (name typ : ByteArray) (n p : Int) (A : Option Addr) (m c : Nat) :
    Calls Tryz.prog 55 #[.agg #[.int .i64 op, .string name, .string typ, .int .i64 n, .int .i64 p, .slice A m c]] w (NewQ op name typ n p (.slice A m c) w) := by
  go_enter Tryz.func55, Tryz.ntmps55
  go_wp2_with fail
  refine bodyPost_ret (v := nodeV w.heap.size) (by unfold nodeV; simp [results, Tryz.results55, go_sem]) rfl ⟨rfl, ?_, ?_⟩
  · exact ((b1 w _).trans ((b1 _ _).mono (by simp)))
  · refine ⟨by simp; omega, ?_, ?_, ?_, ?_, ?_, ?_⟩ <;> simp [go_sem]

theorem run_typ_int {T : Nat → AT} {c : Callee} {i : Nat} (h : (T i).text = kInt) : runW T c typ i = some (.ok kInt (i + 1)) := by simp only [typ, runW, if_pos h]
theorem run_typ_bool {T : Nat → AT} {c : Callee} {i : Nat} (h0 : ¬ (T i).text = kInt) (h : (T i).text = kBool) : runW T c typ i = some (.ok kBool (i + 1)) := by simp only [typ, runW, if_neg h0, if_pos h]
theorem run_typ_else {T : Nat → AT} {c : Callee} {i : Nat} (h0 : ¬ (T i).text = kInt) (h : ¬ (T i).text = kBool) : runW T c typ i = runW T c ((need cStar).bind fun _ => word.bind fun p => .ret (42 :: p.2)) i := by simp only [typ, runW, if_neg h0, if_neg h]

set_option maxRecDepth 100000 in
theorem pointer_any (s : ByteArray) (w : World) (hs : s.size ≤ 100000) : Calls Tryz.prog 162 #[.string s] w fun e w' => e = .returned (.string ⟨(42 :: s.data.toList).toArray⟩) ∧ w = w' := by
  go_enter Tryz.func162, Tryz.ntmps162
  go_wp2_with fail
  go_ret
  refine ⟨congrArg (fun x => Ending.returned (.string x)) (Go.WideShapes.bytes_inj ?_), rfl⟩
  simp

set_option maxRecDepth 100000 in
set_option maxHeartbeats 400000 in
theorem typeText_any (E : Env) (w : World) (i d : Nat) (c : Callee) (r : Res (List UInt8)) (h : RD E w i d) (hr : Hid (runW E.T c typ i = some r)) :
    Calls Tryz.prog 131 #[.pointer (some ⟨E.rb, 0, none⟩)] w (Q E w d VS r) := by
  have H := Lib.hid h
  have hf := tok_text
  clear h
  go_enter Tryz.func131, Tryz.ntmps131
  go_wp2_with fail
  by_cases ht : (E.T i).text = kInt
  · have HQ : Hid (r = .ok kInt (i + 1)) := by
      have := hr.out; rw [run_typ_int ht] at this; exact (Option.some.inj this).symm
    refine (take_yes E w i d ⟨#[105, 110, 116]⟩ H.out ht (Lib.hid (by decide))).mono ?_
    rintro e w1 ⟨rfl, hst⟩
    clear ht hr
    go_wp2_with fail
    go_ret
    rw [HQ.out]
    exact ⟨_, rfl, rfl, hst⟩
  · refine (take_no E w i d ⟨#[105, 110, 116]⟩ H.out ht).mono ?_
    rintro e w1 ⟨rfl, hb⟩
    have HT := Lib.hid ht
    have S1 := Lib.hid (ST.below (ST.refl H.out) hb)
    clear ht hb
    go_wp2_with fail
    by_cases ht2 : (E.T i).text = kBool
    · have HQ : Hid (r = .ok kBool (i + 1)) := by
        have := hr.out; rw [run_typ_bool HT.out ht2] at this; exact (Option.some.inj this).symm
      refine (take_yes E w1 i d ⟨#[98, 111, 111, 108]⟩ S1.out.1 ht2 (Lib.hid (by decide))).mono ?_
      rintro e w2 ⟨rfl, hst⟩
      have HS := Lib.hid (S1.out.trans hst)
      clear hst ht2 hr HT
      go_wp2_with fail
      go_ret
      rw [HQ.out]
      exact ⟨_, rfl, rfl, HS.out⟩
    · have HR : Hid (runW E.T c ((need cStar).bind fun _ => word.bind fun p => .ret (42 :: p.2)) i = some r) := by
        have := hr.out; rw [run_typ_else HT.out ht2] at this; exact this
      refine (take_no E w1 i d ⟨#[98, 111, 111, 108]⟩ S1.out.1 ht2).mono ?_
      rintro e w2 ⟨rfl, hb2⟩
      have S2 := Lib.hid (S1.out.below hb2)
      clear hr hb2 HT ht2 S1
      go_wp2_with fail
      rcases bind_cases HR.out with ⟨j, er, hx, hq⟩ | ⟨p0, j, hx, hq⟩
      · exact (need_any E w2 i d ⟨#[42]⟩ c _ S2.out.1 (Lib.hid (by decide)) hx).mono fun e w' h => by obtain ⟨rfl, hg⟩ := h; exact ⟨rfl, by rw [hq]; exact ⟨rfl, S2.out.2.trans hg⟩⟩
      refine (need_any E w2 i d ⟨#[42]⟩ c _ S2.out.1 (Lib.hid (by decide)) hx).mono ?_
      rintro e w3 ⟨v3, rfl, -, hst⟩
      have S3 := Lib.hid (S2.out.trans hst)
      have HR3 := Lib.hid hq
      clear hst HR hx hq S2
      go_wp2_with fail
      rcases bind_cases HR3.out with ⟨j2, er, hx, hq⟩ | ⟨p, j2, hx, hq⟩
      · exact (word_any E w3 j d c _ S3.out.1 hx).mono fun e w' h => by obtain ⟨rfl, hg⟩ := h; exact ⟨rfl, by rw [hq]; exact ⟨rfl, S3.out.2.trans hg⟩⟩
      refine (word_any E w3 j d c _ S3.out.1 hx).mono ?_
      rintro e w4 ⟨v4, rfl, ⟨hv, htx⟩, hst⟩
      have S4 := Lib.hid (S3.out.trans hst)
      obtain rfl := hv
      have HQ : Hid (r = .ok (42 :: p.2) j2) := (Option.some.inj hq).symm
      have hsz : (⟨(E.T p.1).text.toArray⟩ : ByteArray).size ≤ 100000 := by
        have := H.out.text p.1
        show (E.T p.1).text.toArray.size ≤ 100000
        simp; omega
      have HTX := Lib.hid htx
      clear hst htx hx hq HR3 S3
      unfold tokV
      go_wp2_with (go_at_call 162; refine (pointer_any _ _ hsz).mono ?_; rintro e w5 ⟨rfl, rfl⟩)
      go_ret
      rw [HQ.out]
      exact ⟨.string ⟨(42 :: (E.T p.1).text).toArray⟩, rfl, congrArg (fun l : List UInt8 => Value.string ⟨(42 :: l).toArray⟩) HTX.out, S4.out⟩

def nilS : Value := .slice none 0 0

set_option maxRecDepth 100000 in
set_option maxHeartbeats 800000 in
theorem typed_any (E : Env) (w : World) (i d op : Nat) (c : Callee) (r : Res Tree) (h : RD E w i d) (_ : op < 1000) (hr : Hid (runW E.T c (typed op) i = some r)) :
    Calls Tryz.prog 129 #[.pointer (some ⟨E.rb, 0, none⟩), .int .i64 op] w (Q E w d (VN E w.heap.size) r) := by
  have H := Lib.hid h
  have hr1 := h.lt
  have R1 := Lib.hid (ST.below (ST.refl h) (b1 w (.cells #[.pointer none] 25)))
  clear h
  go_enter Tryz.func129, Tryz.ntmps129
  go_wp2_with fail
  rcases bind_cases hr.out with ⟨j, er, hx, hq⟩ | ⟨p, j, hx, hq⟩
  · exact (word_any E _ i d c _ R1.out.1 hx).mono fun e w' h => by obtain ⟨rfl, hg⟩ := h; exact ⟨rfl, by rw [hq]; exact ⟨rfl, R1.out.2.trans hg⟩⟩
  refine (word_any E _ i d c _ R1.out.1 hx).mono ?_
  rintro e w1 ⟨v1, rfl, ⟨hv, htx⟩, hst⟩
  obtain rfl := hv
  have S1 := R1.out.trans hst
  have P1 := (PtrAt.new w none).kept hst.2 (by omega)
  have HR1 := Lib.hid hq
  clear hx hq hr hst
  unfold tokV
  have S2 := Lib.hid (S1.below (b1 w1 (.cells #[.int .i64 (E.T p.1).kind, .string ⟨(E.T p.1).text.toArray⟩, .int .i64 (E.pl p.1)] 108)))
  have P2 := Lib.hid (P1.below (b1 w1 (.cells #[.int .i64 (E.T p.1).kind, .string ⟨(E.T p.1).text.toArray⟩, .int .i64 (E.pl p.1)] 108)))
  have A2 := Lib.hid (TokAt.new w1 (E.T p.1).kind ⟨(E.T p.1).text.toArray⟩ (E.pl p.1))
  have HTX := Lib.hid htx
  have hs1 : w.heap.size < w1.heap.size := P1.lt
  clear htx S1 P1
  go_wp2_with fail
  generalize w1.alloc (.cells #[.int .i64 (E.T p.1).kind, .string ⟨(E.T p.1).text.toArray⟩, .int .i64 (E.pl p.1)] 108) = wa at *
  obtain ⟨l2, c0, c1, c2, -, -, -⟩ := A2.out
  obtain ⟨l1, q0, f0⟩ := P2.out
  rcases bind_cases HR1.out with ⟨j2, er, hx, hq⟩ | ⟨ty, j2, hx, hq⟩
  · have HX := Lib.hid hx
    have HQ := Lib.hid hq
    clear hx hq HR1
    go_region_dies
    all_goals
      refine (typeText_any E _ j d c _ (S2.out.1.below (Below.refl _ _).drew) HX).mono ?_
      rintro e w2 ⟨rfl, hg⟩
      exact ⟨rfl, by rw [HQ.out]; exact ⟨rfl, S2.out.2.trans ((kb_below (Below.refl _ _).drew).trans hg)⟩⟩
  · have HX := Lib.hid hx
    have HQ : Hid (r = .ok (.mk op p.2 ty 0 p.1 []) j2) := (Option.some.inj hq).symm
    clear hx hq HR1
    go_region_held3 (fun w' => w'.cell? ⟨w1.heap.size, 1, none⟩ = some (.string ⟨(E.T p.1).text.toArray⟩) ∧ w'.cell? ⟨w1.heap.size, 2, none⟩ = some (.int .i64 (E.pl p.1))) (first | exact ⟨c1, c2⟩ | exact ⟨c1', c2'⟩ | exact ⟨c1'', c2''⟩ | (refine ⟨?_, ?_⟩ <;> (rw [World.cell?_setCell_other _ _ _ _ (fun h => by injection h with h1; omega)]; assumption))) (first | (go_at_call 131; refine (typeText_any E _ j d c _ (S2.out.1.below (Below.refl _ _).drew) HX).mono ?_; rintro e w2 ⟨v2, rfl, hv, hst⟩; obtain rfl := hv; have c1' := (far hst.2 l2 (by omega) 1).trans c1; have c2' := (far hst.2 l2 (by omega) 2).trans c2; have HST := Lib.hid hst; clear hst) | (go_at_call 55; refine (newNode_any _ _ _ _ _ _ _ _ _).mono ?_; rintro e w3 ⟨rfl, hb3, hrow⟩; have c1'' := (hb3.cell (p := ⟨w1.heap.size, 1, none⟩) (Nat.lt_of_lt_of_le l2 HST.out.2.size)).trans c1'; have c2'' := (hb3.cell (p := ⟨w1.heap.size, 2, none⟩) (Nat.lt_of_lt_of_le l2 HST.out.2.size)).trans c2'; have HP3 := ((P2.out.below (Below.refl _ _).drew).kept HST.out.2 (by omega)).below hb3; have q3 := HP3.c0; have f3 := HP3.f0; have HB3 := Lib.hid hb3; have HROW := Lib.hid hrow; clear hrow hb3 HP3; unfold nodeV))
    go_wp2_with fail
    refine bodyPost_ret (v := nodeV w2.heap.size) (by unfold nodeV; simp [results, Tryz.results129, go_sem, q3]) rfl ?_
    rw [HQ.out]
    have hlt2 : w.heap.size < w2.heap.size := Nat.lt_of_lt_of_le (P2.out.below (Below.refl _ _).drew).lt HST.out.2.size
    have hrow := HROW.out
    rw [HTX.out] at hrow
    refine ⟨_, rfl, vn_end (node_mk (KidsIn.nil (fun x => w.heap.size < x) E.pl w2) HB3.out hrow hlt2 (fun _ h _ => h) (by omega)) _, ?_⟩
    exact ST.set H.out (((S2.out.below (Below.refl _ _).drew).trans HST.out).below HB3.out) _ _ (Nat.le_refl _) _

end Go.Proofs.YtkahbhfbgdbnfaaGreatDoor

/-
  WORDS FOR THE WALKS: what keeps nodes, kids and the reader; kids written out, and one more. No condition.
-/
namespace Go.Proofs.YtkahbhfbgdbnfaaGreatDoor
open Go.RowKit

theorem NodeAt.st {pl : Nat → Nat} {B rb : Nat} {w w' : World} {b : Nat} {t : Tree} (h : NodeAt (fun x => B < x) pl w b t) (hg : w.grownBy w' (some rb)) (hr : rb ≤ B) : NodeAt (fun x => B < x) pl w' b t :=
  h.kept (Keeps.grown hg fun b e hb => by obtain rfl := Option.some.inj e; exact absurd hb (by omega))
theorem NodeAt.bl {ok : Nat → Prop} {pl : Nat → Nat} {w w' : World} {b : Nat} {t : Tree} (h : NodeAt ok pl w b t) (hb : Below w.heap.size w w') : NodeAt ok pl w' b t := h.kept (Keeps.below hb)
theorem NodeAt.from {pl : Nat → Nat} {B C : Nat} {w : World} {b : Nat} {t : Tree} (h : NodeAt (fun x => C ≤ x) pl w b t) (hB : B < C) : NodeAt (fun x => B < x) pl w b t := h.weak fun _ hx _ => Nat.lt_of_lt_of_le hB hx
theorem NodeAt.over {pl : Nat → Nat} {B C : Nat} {w : World} {b : Nat} {t : Tree} (h : NodeAt (fun x => C < x) pl w b t) (hB : B ≤ C) : NodeAt (fun x => B < x) pl w b t := h.weak fun _ hx _ => Nat.lt_of_le_of_lt hB hx
theorem KidsIn.st {pl : Nat → Nat} {B rb : Nat} {w w' : World} {v : Value} {n : Nat} {ts : List Tree} (h : KidsIn (fun x => B < x) pl w v n ts) (hg : w.grownBy w' (some rb)) (hr : rb ≤ B) : KidsIn (fun x => B < x) pl w' v n ts :=
  h.keep hg (fun b e hb => by obtain rfl := Option.some.inj e; exact absurd hb (by omega)) fun _ h _ => h
theorem KidsIn.bl {ok : Nat → Prop} {pl : Nat → Nat} {w w' : World} {v : Value} {n : Nat} {ts : List Tree} (h : KidsIn ok pl w v n ts) (hb : Below w.heap.size w w') : KidsIn ok pl w' v n ts :=
  h.keep (row := none) ⟨hb.os, hb.tape, hb.output, hb.size, fun i hi _ => hb.block i hi⟩ (fun b e => by cases e) fun _ h _ => h
theorem KidsIn.from {pl : Nat → Nat} {B C : Nat} {w : World} {v : Value} {n : Nat} {ts : List Tree} (h : KidsIn (fun x => C ≤ x) pl w v n ts) (hB : B < C) : KidsIn (fun x => B < x) pl w v n ts :=
  h.keep (row := none) ⟨rfl, rfl, rfl, Nat.le_refl _, fun _ _ _ => rfl⟩ (fun b e => by cases e) fun _ hx _ => Nat.lt_of_lt_of_le hB hx
theorem KidsIn.over {pl : Nat → Nat} {B C : Nat} {w : World} {v : Value} {n : Nat} {ts : List Tree} (h : KidsIn (fun x => C < x) pl w v n ts) (hB : B ≤ C) : KidsIn (fun x => B < x) pl w v n ts :=
  h.keep (row := none) ⟨rfl, rfl, rfl, Nat.le_refl _, fun _ _ _ => rfl⟩ (fun b e => by cases e) fun _ hx _ => Nat.lt_of_le_of_lt hB hx
theorem KidsIn.up {pl : Nat → Nat} {B : Nat} {w : World} {v : Value} {n : Nat} {ts : List Tree} (h : KidsIn (fun x => B < x) pl w v n ts) : KidsIn (fun x => B ≤ x) pl w v n ts :=
  h.keep (row := none) ⟨rfl, rfl, rfl, Nat.le_refl _, fun _ _ _ => rfl⟩ (fun b e => by cases e) fun _ hx _ => Nat.le_of_lt hx

theorem own_mono {w : World} {base base' : Nat} {e : TypeId} {size : Nat} {v : Value} {n : Nat} {xs : List Value} (h : w.ownsRow base e size v n xs) (hb : base' ≤ base) : w.ownsRow base' e size v n xs := by
  refine ⟨h.1, ?_⟩
  rcases h.2 with h2 | ⟨g, cap, cur, h2, h3, h4⟩
  · exact .inl h2
  · exact .inr ⟨g, cap, cur, h2, Nat.le_trans hb h3, h4⟩
theorem kids_lit1 {pl : Nat → Nat} {B : Nat} {w : World} {b : Nat} {t : Tree} (h : NodeAt (fun x => B < x) pl w b t) (hB : B < w.heap.size) : KidsIn (fun x => B < x) pl (w.alloc (.cells #[.pointer (some ⟨b, 0, none⟩)] 25)) (.slice (some ⟨w.heap.size, 0, none⟩) 1 1) 1 [t] := by
  refine ⟨[b], World.ownsRow_lit w #[.pointer (some ⟨b, 0, none⟩)] 1 (Nat.zero_le _) (by simp only [maxLen]; omega) rfl, rfl, rfl, ?_, ?_⟩
  · intro g hg; obtain rfl := Option.some.inj hg; exact hB
  · intro k x t' hx ht
    rcases k with _ | k
    · obtain rfl := Option.some.inj hx
      obtain rfl := Option.some.inj ht
      exact h.keep (Keeps.below (b1 w _)) fun y hy hl => ⟨hy, fun e => by have h9 : w.heap.size = y := Option.some.inj e; omega⟩
    · simp at hx
theorem kids_lit2 {pl : Nat → Nat} {B : Nat} {w : World} {b c : Nat} {t u : Tree} (h : NodeAt (fun x => B < x) pl w b t) (h' : NodeAt (fun x => B < x) pl w c u) (hB : B < w.heap.size) : KidsIn (fun x => B < x) pl (w.alloc (.cells #[.pointer (some ⟨b, 0, none⟩), .pointer (some ⟨c, 0, none⟩)] 25)) (.slice (some ⟨w.heap.size, 0, none⟩) 2 2) 2 [t, u] := by
  refine ⟨[b, c], World.ownsRow_lit w #[.pointer (some ⟨b, 0, none⟩), .pointer (some ⟨c, 0, none⟩)] 2 (Nat.zero_le _) (by simp only [maxLen]; omega) rfl, rfl, rfl, ?_, ?_⟩
  · intro g hg; obtain rfl := Option.some.inj hg; exact hB
  · intro k x t' hx ht
    rcases k with _ | k
    · obtain rfl := Option.some.inj hx
      obtain rfl := Option.some.inj ht
      exact h.keep (Keeps.below (b1 w _)) fun y hy hl => ⟨hy, fun e => by have h9 : w.heap.size = y := Option.some.inj e; omega⟩
    · rcases k with _ | k
      · obtain rfl := Option.some.inj hx
        obtain rfl := Option.some.inj ht
        exact h'.keep (Keeps.below (b1 w _)) fun y hy hl => ⟨hy, fun e => by have h9 : w.heap.size = y := Option.some.inj e; omega⟩
      · simp at hx

theorem node_info : (Tryz.prog.info? 25).map (fun i => (i.zero, i.size, i.bytes)) = some (some (.agg #[.pointer none]), 1, 8) := by kernel_rfl

set_option maxRecDepth 10000 in
theorem wpList_append_kid {ops : Array Oper} {rest : List Oper} {o : Oper} {a : Act} {Q : Exit → Act → World → Prop} {w : World} (hgd : o.guard = none) (s x : Operand)
    (ho : o.op = .call { callee := .builtin .append, args := #[s, x], argTypes := #[80, 80] }) (B : Nat) (pl : Nat → Nat) (v : Value) (n : Nat) (ts : List Tree) (hs : a.eval s = v) (hk : KidsIn (fun x => B < x) pl w v n ts)
    (b : Nat) (t : Tree) (hb : NodeAt (fun x => B < x) pl w b t) (hvb : ∀ g, v.ownBlock = some g → NodeAt (fun x => B < x ∧ g ≠ x) pl w b t) (ad : Nat) (hx : a.eval x = .slice (some ⟨ad, 0, none⟩) 1 1) (hnews : w.cell? ⟨ad, 0, none⟩ = some (.pointer (some ⟨b, 0, none⟩))) (hn : n ≤ 6000) (hB : B < w.heap.size)
    (h : ∀ g cap w', KidsIn (fun x => B < x) pl w' (.slice (some ⟨g, 0, none⟩) (n + 1) cap) (n + 1) (ts ++ [t]) → w.grownBy w' v.ownBlock → (∀ y, v.ownBlock = some y → B < y) → wpList Tryz.prog ops Q rest (a.put o.dst (.slice (some ⟨g, 0, none⟩) (n + 1) cap)) w') : wpList Tryz.prog ops Q (o :: rest) a w := by
  obtain ⟨bs, h1, h2, h3, h4, h5⟩ := hk
  obtain ⟨i0, hi0, hz0, hz1, hz2⟩ := info_parts node_info
  refine wpList_append_lies _ hgd s x 80 ho 0 25 i0 _ 1 8 Tryz.underlying80 hi0 hz0 hz1 hz2 rfl (by omega) v n (ptrsOf bs) hs h1 ⟨ad, 0, none⟩ 1 1 [.pointer (some ⟨b, 0, none⟩)] hx rfl ?_ (by simp [Value.oneCell']) (by omega) (by simp only [maxLen]; omega) (by omega) (Nat.zero_le _) w.heap.size rfl ?_
  · intro j u hj
    rcases j with _ | j
    · obtain rfl := Option.some.inj hj; exact hnews
    · simp at hj
  · intro g cap w' hown hg hat hlt
    refine h g cap w' ⟨bs ++ [b], ?_, by simp [h2], by simp [h3], ?_, ?_⟩ hg h4
    · unfold ptrsOf at hown ⊢
      rw [List.map_append]; exact hown
    · intro y hy
      have hy' : g = y := Option.some.inj hy
      subst hy'
      rcases hat with e | e
      · exact h4 _ e
      · omega
    · intro k x' t' hx' ht'
      have hw : ∀ y, ((B < y ∧ v.ownBlock ≠ some y)) → y < w.heap.size → (B < y ∧ (Value.slice (some ⟨g, 0, none⟩) (n + 1) cap).ownBlock ≠ some y) := by
        intro y hy hl
        refine ⟨hy.1, fun e => ?_⟩
        have hy' : g = y := Option.some.inj e
        subst hy'
        rcases hat with e | e
        · exact hy.2 e
        · omega
      have hkp : Keeps (fun y => B < y ∧ v.ownBlock ≠ some y) w w' := Keeps.grown hg fun y e hy => hy.2 e
      rcases Nat.lt_or_ge k n with hkn | hkn
      · rw [List.getElem?_append_left (by omega)] at hx' ht'
        exact (h5 k x' t' hx' ht').keep hkp hw
      · rw [List.getElem?_append_right (by omega)] at hx' ht'
        have hk0 : k - bs.length = 0 := by
          have := (List.getElem?_eq_some_iff.1 hx').1
          simp at this; omega
        rw [hk0] at hx'
        rw [show k - ts.length = 0 by omega] at ht'
        obtain rfl := Option.some.inj hx'
        obtain rfl := Option.some.inj ht'
        refine NodeAt.keep (ok := fun y => B < y ∧ v.ownBlock ≠ some y) ?_ hkp hw
        cases hv : v.ownBlock with
        | none => exact hb.weak fun y hy _ => ⟨hy, by simp⟩
        | some g' => exact (hvb g' hv).weak fun y hy _ => ⟨hy.1, fun e => hy.2 (Option.some.inj e)⟩

theorem ST.grow {E : Env} {w0 w w' : World} {i0 d0 i d : Nat} {row : Option Nat} (R0 : RD E w0 i0 d0) (h : ST E w0 w i d) (hg : w.grownBy w' row) (hr : ∀ y, row = some y → w0.heap.size ≤ y) : ST E w0 w' i d := by
  have c : ∀ x o', x < w0.heap.size → w'.cell? ⟨x, o', none⟩ = w.cell? ⟨x, o', none⟩ := fun x o' hx => hg.cell_far ⟨x, o', none⟩ (Nat.lt_of_lt_of_le hx h.2.size) (fun e => by have := hr x e.symm; omega)
  have f : ∀ x o', x < w0.heap.size → w'.frozen? ⟨x, o', none⟩ = w.frozen? ⟨x, o', none⟩ := fun x o' hx => hg.frozen_far ⟨x, o', none⟩ (Nat.lt_of_lt_of_le hx h.2.size) (fun e => by have := hr x e.symm; omega)
  refine ⟨?_, kb_then h.2 hg fun j e => .inl (hr j e)⟩
  exact { h.1 with lt := Nat.lt_of_lt_of_le h.1.lt hg.size, llt := Nat.lt_of_lt_of_le h.1.llt hg.size, c0 := (c _ _ R0.lt).trans h.1.c0, c1 := (c _ _ R0.lt).trans h.1.c1, c2 := (c _ _ R0.lt).trans h.1.c2, fr := fun k => (f _ _ R0.lt).trans (h.1.fr k), k0 := fun k hk => (c _ _ R0.llt).trans (h.1.k0 k hk), k1 := fun k hk => (c _ _ R0.llt).trans (h.1.k1 k hk), k2 := fun k hk => (c _ _ R0.llt).trans (h.1.k2 k hk), good := h.1.good.low (low_grown hg (fun x e => Nat.le_trans R0.good.size (hr x e)) h.1.good.size) }
theorem PtrAt.grow {w w' : World} {b : Nat} {x : Option Addr} {row : Option Nat} (h : PtrAt w b x) (hg : w.grownBy w' row) (hne : row ≠ some b) : PtrAt w' b x :=
  ⟨Nat.lt_of_lt_of_le h.lt hg.size, (hg.cell_far ⟨b, 0, none⟩ h.lt (fun e => hne e.symm)).trans h.c0, (hg.frozen_far ⟨b, 0, none⟩ h.lt (fun e => hne e.symm)).trans h.f0⟩
theorem TokAt.grow {w w' : World} {b : Nat} {k : Int} {s : ByteArray} {p : Int} {row : Option Nat} (h : TokAt w b k s p) (hg : w.grownBy w' row) (hne : row ≠ some b) : TokAt w' b k s p :=
  ⟨Nat.lt_of_lt_of_le h.lt hg.size, (hg.cell_far ⟨b, 0, none⟩ h.lt (fun e => hne e.symm)).trans h.c0, (hg.cell_far ⟨b, 1, none⟩ h.lt (fun e => hne e.symm)).trans h.c1, (hg.cell_far ⟨b, 2, none⟩ h.lt (fun e => hne e.symm)).trans h.c2, (hg.frozen_far ⟨b, 0, none⟩ h.lt (fun e => hne e.symm)).trans h.f0, (hg.frozen_far ⟨b, 1, none⟩ h.lt (fun e => hne e.symm)).trans h.f1, (hg.frozen_far ⟨b, 2, none⟩ h.lt (fun e => hne e.symm)).trans h.f2⟩

theorem node_done {E : Env} {w w2 w3 : World} {i0 d0 i d n op pos B : Nat} {name typ : List UInt8} {num : Int} {v : Value} {ts : List Tree} (H : RD E w i0 d0) (hst : ST E w w2 i d) (hk : KidsIn (fun x => B < x) E.pl w2 v n ts) (hB : w.heap.size ≤ B) (hb : Below w2.heap.size w2 w3) (hrow : RowAt w3 w2.heap.size op ⟨name.toArray⟩ ⟨typ.toArray⟩ num (E.pl pos) v) (hlt : w.heap.size < w2.heap.size) (hn : n ≤ 6000) (u : Value) :
    Q E w d (VN E w.heap.size) (.ok (.mk op name typ num pos ts) i) (.returned (nodeV w2.heap.size)) (w3.setCell ⟨w.heap.size, 0, none⟩ u) :=
  ⟨_, rfl, vn_end (node_mk hk hb hrow hlt (fun _ h _ => Nat.lt_of_le_of_lt hB h) hn) _, ST.set H (hst.below hb) _ _ (Nat.le_refl _) _⟩
theorem pass_done {E : Env} {w w2 : World} {i0 d0 i d b B : Nat} {t : Tree} (H : RD E w i0 d0) (hst : ST E w w2 i d) (hn : NodeAt (fun x => B < x) E.pl w2 b t) (hB : w.heap.size ≤ B) (u : Value) :
    Q E w d (VN E w.heap.size) (.ok t i) (.returned (nodeV b)) (w2.setCell ⟨w.heap.size, 0, none⟩ u) :=
  ⟨_, rfl, vn_end (hn.over hB) _, ST.set H hst _ _ (Nat.le_refl _) _⟩

end Go.Proofs.YtkahbhfbgdbnfaaGreatDoor

/-
  CONTRACTS: what num.IsBinary, IsUnary, Level, Sign, Signed answer, at all arguments, where the table of signs lies as its initialiser lays it. The world is as it was.
-/
namespace Go.Proofs.YtkahbhfbgdbnfaaGreatDoor
open Go.RowKit

def binB (op : Int) : Bool := decide (1 ≤ op) && decide (op ≤ 16)
def unB (op : Int) : Bool := (op == 17) || (op == 18)
def signedV (s : ByteArray) (args : Int) : Int := if args = 1 then findN s.data.toList 17 2 else if args = 2 then findN s.data.toList 1 16 else 0
set_option maxRecDepth 100000 in
set_option maxHeartbeats 400000 in
theorem isBinary_any (op : Int) (w : World) : Calls Tryz.prog 169 #[.int .i64 op] w fun e w' => e = .returned (.bool (binB op)) ∧ w = w' := by
  go_enter Tryz.func169, Tryz.ntmps169
  go_wp2
  all_goals go_ret
  all_goals exact ⟨ret_bool (by unfold binB; first | (simp [*]; done) | (simp; omega)), rfl⟩
set_option maxRecDepth 100000 in
set_option maxHeartbeats 400000 in
theorem isUnary_any (op : Int) (w : World) : Calls Tryz.prog 170 #[.int .i64 op] w fun e w' => e = .returned (.bool (unB op)) ∧ w = w' := by
  go_enter Tryz.func170, Tryz.ntmps170
  go_wp2
  all_goals go_ret
  all_goals exact ⟨ret_bool (by simp [unB, *]), rfl⟩
set_option maxRecDepth 100000 in
set_option maxHeartbeats 400000 in
theorem level_any (op : Int) (w : World) : Calls Tryz.prog 232 #[.int .i64 op] w fun e w' => e = .returned (.int .i64 (levelV op)) ∧ w = w' := by
  go_enter Tryz.func232, Tryz.ntmps232
  go_wp2
  all_goals go_ret
  all_goals (refine ⟨ret_int ?_, rfl⟩; simp only [beq_iff_eq, beq_eq_false_iff_ne, ne_eq] at *; unfold levelV; (repeat' split) <;> omega)
theorem ret_ib {a b : Int} {c d : Bool} (h : a = b) (g : c = d) : Ending.returned (.tuple #[.int .i64 a, .bool c]) = .returned (.tuple #[.int .i64 b, .bool d]) := by rw [h, g]
set_option maxRecDepth 100000 in
set_option maxHeartbeats 400000 in
theorem sign_none (op : Int) (w : World) (h : op < 1 ∨ 18 < op) : Calls Tryz.prog 141 #[.int .i64 op] w fun e w' => e = .returned (.string (signS op)) ∧ w = w' := by
  have e1 : binB op = false := by unfold binB; simp; omega
  have e2 : unB op = false := by unfold unB; simp; omega
  have hv : signS op = ⟨#[]⟩ := by simp [signS, signL, h]
  rw [hv]
  clear hv
  go_enter Tryz.func141, Tryz.ntmps141
  go_wp2_with (first | (go_at_call 169; refine (isBinary_any _ _).mono ?_; rintro e w' ⟨rfl, rfl⟩) | (go_at_call 170; refine (isUnary_any _ _).mono ?_; rintro e w' ⟨rfl, rfl⟩))
  go_ret
  exact ⟨rfl, rfl⟩
set_option maxRecDepth 100000 in
set_option maxHeartbeats 400000 in
theorem sign_some (op : Int) (w : World) (h1 : 1 ≤ op) (h2 : op ≤ 18) (hS : SignsIn w) : Calls Tryz.prog 141 #[.int .i64 op] w fun e w' => e = .returned (.string (signS op)) ∧ w = w' := by
  obtain ⟨k, rfl⟩ := Int.eq_ofNat_of_zero_le (show 0 ≤ op by omega)
  have hv : signS (k : Int) = ⟨(signTab.getD k []).toArray⟩ := by
    unfold signS signL; rw [if_neg (by omega), Int.toNat_natCast]
  have hc := hS k (by omega)
  rw [hv]
  clear hv hS
  generalize (⟨(signTab.getD k []).toArray⟩ : ByteArray) = s at *
  by_cases h3 : (k : Int) ≤ 16
  · have e1 : binB (k : Int) = true := by unfold binB; simp; omega
    go_enter Tryz.func141, Tryz.ntmps141
    go_wp2_with (first | (go_at_call 169; refine (isBinary_any _ _).mono ?_; rintro e w' ⟨rfl, rfl⟩) | (go_at_call 170; refine (isUnary_any _ _).mono ?_; rintro e w' ⟨rfl, rfl⟩))
    go_ret
    exact ⟨rfl, rfl⟩
  · have e1 : binB (k : Int) = false := by unfold binB; simp; omega
    have e2 : unB (k : Int) = true := by unfold unB; simp; omega
    go_enter Tryz.func141, Tryz.ntmps141
    go_wp2_with (first | (go_at_call 169; refine (isBinary_any _ _).mono ?_; rintro e w' ⟨rfl, rfl⟩) | (go_at_call 170; refine (isUnary_any _ _).mono ?_; rintro e w' ⟨rfl, rfl⟩))
    go_ret
    exact ⟨rfl, rfl⟩
theorem sign_any (op : Int) (w : World) (hS : SignsIn w) : Calls Tryz.prog 141 #[.int .i64 op] w fun e w' => e = .returned (.string (signS op)) ∧ w = w' := by
  by_cases h : op < 1 ∨ 18 < op
  · exact sign_none op w h
  · exact sign_some op w (by omega) (by omega) hS
theorem find_hit (l : List UInt8) (k n : Nat) (h : signTab.getD k [] = l) : findN l k (n + 1) = k := by rw [findN, if_pos h]
theorem find_miss (l : List UInt8) (k n : Nat) (h : ¬ signTab.getD k [] = l) : findN l k (n + 1) = findN l (k + 1) n := by
  rw [findN, if_neg h]
set_option maxRecDepth 100000 in
set_option maxHeartbeats 400000 in
theorem among_any (s : ByteArray) (a n : Nat) (w : World) (h1 : 1 ≤ a) (h2 : a + n ≤ 19) (hS : SignsIn w) :
    Calls Tryz.prog 251 #[.string s, .int .i64 a, .int .i64 ((a + n : Nat) - 1 : Int)] w fun e w' => e = .returned (.tuple #[.int .i64 (findN s.data.toList a n), .bool (findN s.data.toList a n != 0)]) ∧ w = w' := by
  have HS := Lib.hid hS
  clear hS
  obtain ⟨b, hb⟩ : ∃ b : Int, b = ((a + n : Nat) - 1 : Int) := ⟨_, rfl⟩
  obtain ⟨l, hl⟩ : ∃ l : Nat, l = a + n := ⟨_, rfl⟩
  have hn : n = l - a := by omega
  rw [← hb]
  subst hn
  have Hb : b + 1 = l := by omega
  have HB := Lib.hid Hb
  have hb1 : b ≤ 18 := by omega
  have hal : a ≤ l := by omega
  clear hb hl Hb
  obtain ⟨q, hq⟩ : ∃ q : Int, q = findN s.data.toList a (l - a) := ⟨_, rfl⟩
  rw [← hq]
  have HQ := Lib.hid hq
  clear hq
  go_enter Tryz.func251, Tryz.ntmps251
  go_wp2
  go_loop [8] (fun i => ∃ k : Nat, a ≤ k ∧ k ≤ l ∧ i = .int .i64 k ∧ Hid (q = findN s.data.toList k (l - k))) (fun i => 19 - (intOf i).toNat)
  case atStart => exact ⟨a, Nat.le_refl _, by omega, rfl, HQ⟩
  case round =>
    obtain ⟨k, hk1, hk2, rfl, HK⟩ := hrel
    have hbl := HB.out
    by_cases hlt : (k : Int) ≤ b
    · have hc := HS.out k (by omega)
      by_cases hm : signTab.getD k [] = s.data.toList
      · have hf : q = k := by rw [HK.out, show l - k = (l - k - 1) + 1 by omega, find_hit _ _ _ hm]
        have HF := Lib.hid hf
        have hk18 : k < 19 := by omega
        clear hf hbl
        have hsb : (⟨(signTab.getD k []).toArray⟩ : ByteArray) = s := by rw [hm]
        rw [hsb] at hc
        clear hsb hm HK
        go_wp2
        go_ret2
        exact ⟨ret_ib HF.out.symm (by rw [HF.out]; simp; omega), rfl⟩
      · have hf : q = findN s.data.toList (k + 1) (l - (k + 1)) := by rw [HK.out, show l - k = (l - k - 1) + 1 by omega, find_miss _ _ _ hm]; rfl
        have HF := Lib.hid hf
        have hk18 : k < 19 := by omega
        have hne : ((signTab.getD k []) == s.toList) = false := by
          simp; intro e; apply hm; rw [List.getD_eq_getElem?_getD, e]; exact ByteArray.toList_eq s
        clear hf hbl hm HK
        generalize signTab.getD k [] = t at hc hne
        go_wp2
        go_round
        case rel => exact ⟨k + 1, by omega, by have := HB.out; omega, by go_num, HF⟩
        case measure => simp [intOf]; omega
    · have hf : q = 0 := by rw [HK.out, show l - k = 0 by omega]; rfl
      have HF := Lib.hid hf
      clear hf HK
      go_wp2
      go_ret2
      exact ⟨ret_ib HF.out.symm (by rw [HF.out]; rfl), rfl⟩
set_option maxRecDepth 100000 in
set_option maxHeartbeats 400000 in
theorem signed_any (s : ByteArray) (args : Int) (w : World) (hS : SignsIn w) : Calls Tryz.prog 247 #[.string s, .int .i64 args] w fun e w' => e = .returned (.tuple #[.int .i64 (signedV s args), .bool (signedV s args != 0)]) ∧ w = w' := by
  have HS := Lib.hid hS
  clear hS
  by_cases h1 : args = 1
  · subst h1
    have hv : signedV s 1 = findN s.data.toList 17 2 := by simp [signedV]
    rw [hv]
    clear hv
    go_enter Tryz.func247, Tryz.ntmps247
    go_wp2_with (go_at_call 251; refine (among_any _ 17 2 _ (by omega) (by omega) HS.out).mono ?_; rintro e w' ⟨rfl, rfl⟩)
    go_ret2
    exact ⟨rfl, rfl⟩
  · by_cases h2 : args = 2
    · subst h2
      have hv : signedV s 2 = findN s.data.toList 1 16 := by simp [signedV]
      rw [hv]
      clear hv
      go_enter Tryz.func247, Tryz.ntmps247
      go_wp2_with (go_at_call 251; refine (among_any _ 1 16 _ (by omega) (by omega) HS.out).mono ?_; rintro e w' ⟨rfl, rfl⟩)
      go_ret2
      exact ⟨rfl, rfl⟩
    · have hv : signedV s args = 0 := by simp [signedV, h1, h2]
      have b1 : (args == 1) = false := by simpa using h1
      have b2 : (args == 2) = false := by simpa using h2
      rw [hv]
      clear hv h1 h2
      go_enter Tryz.func247, Tryz.ntmps247
      go_wp2
      go_ret2
      exact ⟨rfl, rfl⟩

end Go.Proofs.YtkahbhfbgdbnfaaGreatDoor

/-
  WORDS FOR THE WALKS: how a run of the grammar is taken apart; what is supposed of calls one step down. No condition.
-/
namespace Go.Proofs.YtkahbhfbgdbnfaaGreatDoor
open Go.RowKit

theorem last_cases {α : Type} {x : Option (Res α)} {r : Res α} (h : x = some r) : (∃ j e, x = some (.bad j e) ∧ r = .bad j e) ∨ (∃ a j, x = some (.ok a j) ∧ r = .ok a j) := by
  cases r with
  | ok a j => exact .inr ⟨a, j, h, rfl⟩
  | bad j e => exact .inl ⟨j, e, h, rfl⟩
section
variable {α : Type} {T : Nat → AT} {c : Callee} {i : Nat} {r : Res α}
theorem peek_yes {K : List UInt8} {A B : Nat → AT → Pr α} (h : runW T c (.peek fun i t => if t.text = K then A i t else B i t) i = some r) (ht : (T i).text = K) : runW T c (A i (T i)) i = some r := by
  simp only [runW, if_pos ht] at h; exact h
theorem peek_no {K : List UInt8} {A B : Nat → AT → Pr α} (h : runW T c (.peek fun i t => if t.text = K then A i t else B i t) i = some r) (ht : ¬ (T i).text = K) : runW T c (B i (T i)) i = some r := by
  simp only [runW, if_neg ht] at h; exact h
theorem ite_yes {b : Prop} [Decidable b] {A B : Pr α} (h : runW T c (if b then A else B) i = some r) (hb : b) : runW T c A i = some r := by rw [if_pos hb] at h; exact h
theorem ite_no {b : Prop} [Decidable b] {A B : Pr α} (h : runW T c (if b then A else B) i = some r) (hb : ¬ b) : runW T c B i = some r := by rw [if_neg hb] at h; exact h
theorem run_peek {k : Nat → AT → Pr α} (h : runW T c (.peek k) i = some r) : runW T c (k i (T i)) i = some r := h
theorem run_next {p : Pr α} (h : runW T c (.next p) i = some r) : runW T c p (i + 1) = some r := h
theorem run_fail {e : Nat} (h : runW T c (.fail e) i = some r) : r = .bad i e := (Option.some.inj h).symm
theorem run_ret {a : α} (h : runW T c (.ret a) i = some r) : r = .ok a i := (Option.some.inj h).symm
theorem call_some {nt : NT} {d : Nat} {f : List Tree → Pr α} (h : runW T c (.call nt d f) i = some r) : ∃ rs, c nt d i = some rs ∧ (∀ j e, rs = .bad j e → r = .bad j e) ∧ (∀ a j, rs = .ok a j → runW T c (f a) j = some r) := by
  rcases call_cases h with ⟨j, e, h1, h2⟩ | ⟨a, j, h1, h2⟩
  · exact ⟨_, h1, fun j' e' g => by cases g; exact h2, fun a j' g => by cases g⟩
  · exact ⟨_, h1, fun j' e' g => by (cases g), fun a' j' g => by cases g; exact h2⟩
end
def preR (ks : List Tree) : Res (List Tree) → Res (List Tree)
  | .ok ts j => .ok (ks ++ ts) j
  | .bad j e => .bad j e
theorem preR_nil (r : Res (List Tree)) : preR [] r = r := by cases r <;> rfl
theorem P_prog {T : Nat → AT} {z : Nat} (S : Sent T z) {m d i j : Nat} {nt : NT} {ts : List Tree} (hok : okNT nt) (hi : i ≤ z) (h : P T m nt d i = some (.ok ts j)) : i + minc nt ≤ j ∧ j ≤ z := by
  obtain ⟨r, h1, h2⟩ := P_total S (max m (4 * (z - i) + rank nt + 1)) nt d i hok hi (by omega)
  have := P_mono T (Nat.le_max_left m (4 * (z - i) + rank nt + 1)) _ _ _ _ h
  rw [this] at h1
  exact h2 ts j (Option.some.inj h1).symm
theorem tot_prog {α : Type} {T : Nat → AT} {z : Nat} {c : Callee} {k : Nat} {p : Pr α} {i j : Nat} {a : α} (h : Tot T z c k p i) (hr : runW T c p i = some (.ok a j)) : i + k ≤ j ∧ j ≤ z := by
  obtain ⟨r, h1, h2⟩ := h
  rw [hr] at h1
  exact h2 a j (Option.some.inj h1).symm
theorem P_pos {T : Nat → AT} {m : Nat} {nt : NT} {d i : Nat} {r : Res (List Tree)} (h : P T m nt d i = some r) : ∃ m', m = m' + 1 ∧ runW T (P T m') (body nt d) i = some r := by
  cases m with
  | zero => cases h
  | succ m => exact ⟨m, rfl, h⟩
/-- Where the reader stands. -/
def nx (E : Env) (w : World) : Nat := match w.cell? ⟨E.rb, 1, none⟩ with | some (.int _ i) => i.toNat | _ => 0
theorem RD.at_nx {E : Env} {w : World} {i d : Nat} (h : RD E w i d) : nx E w = i := by unfold nx; rw [h.c1]; simp

theorem KidsIn.lt {ok : Nat → Prop} {pl : Nat → Nat} {w : World} {v : Value} {n : Nat} {ts : List Tree} (h : KidsIn ok pl w v n ts) : ∀ g, v.ownBlock = some g → g < w.heap.size := by
  obtain ⟨bs, h1, -⟩ := h
  exact fun g hg => (h1.lt g hg).2
/-- A loop that gathers kids: so many are read, and the run of the others is known. -/
def KRel (E : Env) (n : Nat) (w : World) (B : Nat) (nt : NT) (d : Nat) (rs : Res (List Tree)) (v : Value) (wr : World) : Prop :=
  ∃ (m k i : Nat) (ts : List Tree) (r : Res (List Tree)), m ≤ n ∧ k ≤ i ∧ B < wr.heap.size ∧ Hid (P E.T m nt d i = some r) ∧ Hid (rs = preR ts r) ∧ Hid (KidsIn (fun x => B < x) E.pl wr v k ts) ∧ Hid (ST E w wr i d) ∧ Hid (PtrAt wr w.heap.size none)
/-- The same of a method that hands back a list, and has no block of its own. -/
def KRelL (E : Env) (n : Nat) (w : World) (nt : NT) (dn d : Nat) (rs : Res (List Tree)) (v : Value) (wr : World) : Prop :=
  ∃ (m k i : Nat) (ts : List Tree) (r : Res (List Tree)), m ≤ n ∧ k ≤ i ∧ w.heap.size ≤ wr.heap.size ∧ Hid (P E.T m nt dn i = some r) ∧ Hid (rs = preR ts r) ∧ Hid (KidsIn (fun x => w.heap.size - 1 < x) E.pl wr v k ts) ∧ Hid (ST E w wr i d)
/-- The same with a token in the block B. -/
def KRelT (E : Env) (n : Nat) (w : World) (B : Nat) (nt : NT) (dn d : Nat) (kd : Int) (s : ByteArray) (p : Int) (rs : Res (List Tree)) (v : Value) (wr : World) : Prop :=
  ∃ (m k i : Nat) (ts : List Tree) (r : Res (List Tree)), m ≤ n ∧ k ≤ i ∧ B < wr.heap.size ∧ Hid (P E.T m nt dn i = some r) ∧ Hid (rs = preR ts r) ∧ Hid (KidsIn (fun x => B < x) E.pl wr v k ts) ∧ Hid (ST E w wr i d) ∧ Hid (PtrAt wr w.heap.size none) ∧ Hid (TokAt wr B kd s p)
theorem vl_end {E : Env} {w wr : World} {v : Value} {k : Nat} {ts : List Tree} (h : KidsIn (fun x => w.heap.size - 1 < x) E.pl wr v k ts) (hk : k ≤ 5001) : VL E w.heap.size ts v wr := by
  have hl : ts.length = k := by obtain ⟨bs, -, -, h3, -⟩ := h; exact h3
  refine ⟨by omega, ?_⟩
  rw [hl]
  exact h.keep (row := none) ⟨rfl, rfl, rfl, Nat.le_refl _, fun _ _ _ => rfl⟩ (fun b e => by cases e) fun x hx _ => by omega
theorem preR_ok {ks : List Tree} {rs : Res (List Tree)} {a : List Tree} {j : Nat} (h : preR ks rs = .ok a j) : ∃ a', rs = .ok a' j ∧ a = ks ++ a' := by
  cases rs with
  | ok x y => injection h with h1 h2; exact ⟨x, by rw [h2], h1.symm⟩
  | bad x y => cases h
theorem preR_bad {ks : List Tree} {rs : Res (List Tree)} {j e : Nat} (h : preR ks rs = .bad j e) : rs = .bad j e := by
  cases rs with
  | ok x y => cases h
  | bad x y => exact h
theorem preR_pre (a b : List Tree) (r : Res (List Tree)) : preR a (preR b r) = preR (a ++ b) r := by cases r <;> simp [preR]
/-- A node out of a list of one. -/
def VH (E : Env) (lo : Nat) (ts : List Tree) (v : Value) (w' : World) : Prop := VN E lo (hd ts) v w'
structure IH (E : Env) (n : Nat) : Prop where
  binary : ∀ (w : World) (i d l : Nat) (r : Res (List Tree)), 1 ≤ l → l ≤ 6 → RD E w i d → Hid (P E.T n (.binary l) d i = some r) → Calls Tryz.prog 218 #[.pointer (some ⟨E.rb, 0, none⟩), .int .i64 l] w (Q E w d (VH E w.heap.size) r)
  unary : ∀ (w : World) (i d : Nat) (r : Res (List Tree)), RD E w i d → Hid (P E.T n .unary d i = some r) → Calls Tryz.prog 236 #[.pointer (some ⟨E.rb, 0, none⟩)] w (Q E w d (VH E w.heap.size) r)
  stmt : ∀ (w : World) (i d : Nat) (r : Res (List Tree)), RD E w i d → Hid (P E.T n .stmt d i = some r) → Calls Tryz.prog 164 #[.pointer (some ⟨E.rb, 0, none⟩)] w (Q E w d (VH E w.heap.size) r)
  branch : ∀ (w : World) (i d : Nat) (r : Res (List Tree)), RD E w i d → Hid (P E.T n .branch d i = some r) → Calls Tryz.prog 178 #[.pointer (some ⟨E.rb, 0, none⟩)] w (Q E w d (VH E w.heap.size) r)

end Go.Proofs.YtkahbhfbgdbnfaaGreatDoor
