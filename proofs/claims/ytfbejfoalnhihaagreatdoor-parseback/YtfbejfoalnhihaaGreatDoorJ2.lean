/-
  CONTRACTS: newNode; typeText, typed, named of the reader. Nobody but the reader's own block has turned.
-/
import Derived.Test.YtfbejfoalnhihaaGreatDoorJ1
import Derived.Deep.RegionHeld3
import Derived.RegionDies
import Derived.Deep.RegionWith
import Derived.WalkKit
import Derived.WalkSpells
import Derived.WalkLawsBesides
import Derived.Lib.Hide
import Derived.Deep.AppendLies
import Derived.Maps.AppendAt
import Derived.OwnWalk
import Derived.RegionTactic
import Derived.Lib.LaidTab
namespace Go.Proofs.YtfbejfoalnhihaaGreatDoor
open Go.RowKit

structure RowAt (w : World) (b : Nat) (op : Int) (name typ : ByteArray) (n p : Int) (kv : Value) : Prop where
  lt : b < w.heap.size
  h0 : w.cell? ⟨b, 0, none⟩ = some (.int .i64 op)
  h1 : w.cell? ⟨b, 1, none⟩ = some (.string name)
  h2 : w.cell? ⟨b, 2, none⟩ = some (.string typ)
  h3 : w.cell? ⟨b, 3, none⟩ = some (.int .i64 n)
  h4 : w.cell? ⟨b, 4, none⟩ = some (.int .i64 p)
  h5 : w.cell? ⟨b, 5, none⟩ = some kv

theorem slice_of {w : World} {base : Nat} {e : TypeId} {v : Value} {n : Nat} {xs : List Value} (h : w.ownsRow base e 1 v n xs) : ∃ A c, v = .slice A n c ∧ n ≤ c ∧ (0 < n → ∃ g, A = some ⟨g, 0, none⟩ ∧ v.ownBlock = some g) := by
  rcases h.2 with ⟨rfl, h0⟩ | ⟨g, cap, cur, rfl, h1, h2, h3, h4⟩
  · exact ⟨none, 0, by rw [h0], by omega, fun h => by omega⟩
  · exact ⟨_, cap, rfl, h3, fun _ => ⟨g, rfl, rfl⟩⟩

theorem node_mk {ok ok' : Nat → Prop} {pl : Nat → Nat} {w w' : World} {v : Value} {n : Nat} {ts : List Tree} {b op : Nat} {name typ : List UInt8} {num : Int} {pos : Nat} (hk : KidsIn ok pl w v n ts) (hb : Below w.heap.size w w') (hr : RowAt w' b op ⟨name.toArray⟩ ⟨typ.toArray⟩ num (pl pos) v) (hbok : ok' b) (hok : ∀ x, ok x → x < w.heap.size → ok' x) (hn : n ≤ 6000) : NodeAt ok' pl w' b (.mk op name typ num pos ts) := by
  obtain ⟨bs, h1, h2, h3, h4, h5⟩ := hk
  obtain ⟨A, c, hv, hc, hA⟩ := slice_of h1
  subst hv
  have h6 := hr.h5
  rw [← h3] at h6
  refine .mk A c bs hr.lt hbok hr.h0 hr.h1 hr.h2 hr.h3 hr.h4 h6 (by omega) (by omega) (by omega) ?_ ?_
  · intro k x hx
    have hkn : k < n := by rw [← h2]; exact (List.getElem?_eq_some_iff.1 hx).1
    obtain ⟨g, hg1, hg2⟩ := hA (by omega)
    have hlt := (h1.lt g hg2).2
    refine ⟨g, hg1, Nat.lt_of_lt_of_le hlt hb.size, hok g (h4 g hg2) hlt, ?_⟩
    rw [hb.cell (p := ⟨g, k, none⟩) hlt]
    subst hg1
    rw [h1.cellAt k (by omega)]
    unfold ptrsOf
    rw [List.getElem?_map, hx]; rfl
  · intro k x t hx ht
    exact (h5 k x t hx ht).keep (Keeps.below hb) fun b hb hl => hok b hb.1 hl

theorem vn_end {E : Env} {w w' : World} {b : Nat} {t : Tree} (h : NodeAt (fun x => w.heap.size < x) E.pl w' b t) (u : Value) : VN E w.heap.size t (nodeV b) (w'.setCell ⟨w.heap.size, 0, none⟩ u) :=
  ⟨b, rfl, h.keep (Keeps.set _ _ _ (Nat.lt_irrefl _)) fun _ h _ => Nat.le_of_lt h⟩

/-- What newNode leaves: a node in a new block, which reads so. -/
def NewQ (op : Int) (name typ : ByteArray) (n p : Int) (kv : Value) (w : World) (e : Ending) (w' : World) : Prop :=
  e = .returned (nodeV w.heap.size) ∧ Below w.heap.size w w' ∧ RowAt w' w.heap.size op name typ n p kv

set_option maxRecDepth 100000 in
set_option maxHeartbeats 400000 in
theorem newNode_any (w : World) (op : Int) (name typ : ByteArray) (n p : Int) (A : Option Addr) (m c : Nat) :
    Calls Tryz.prog 42 #[.agg #[.int .i64 op, .string name, .string typ, .int .i64 n, .int .i64 p, .slice A m c]] w (NewQ op name typ n p (.slice A m c) w) := by
  go_enter Tryz.func42, Tryz.ntmps42
  go_wp2_with fail
  refine bodyPost_ret (v := nodeV w.heap.size) (by unfold nodeV; simp [results, Tryz.results42, go_sem]) rfl ⟨rfl, ?_, ?_⟩
  · exact ((b1 w _).trans ((b1 _ _).mono (by simp)))
  · refine ⟨by simp; omega, ?_, ?_, ?_, ?_, ?_, ?_⟩ <;> simp [go_sem]

theorem run_typ_int {T : Nat → AT} {c : Callee} {i : Nat} (h : (T i).text = kInt) : runW T c typ i = some (.ok kInt (i + 1)) := by simp only [typ, runW, if_pos h]
theorem run_typ_bool {T : Nat → AT} {c : Callee} {i : Nat} (h0 : ¬ (T i).text = kInt) (h : (T i).text = kBool) : runW T c typ i = some (.ok kBool (i + 1)) := by simp only [typ, runW, if_neg h0, if_pos h]
theorem run_typ_else {T : Nat → AT} {c : Callee} {i : Nat} (h0 : ¬ (T i).text = kInt) (h : ¬ (T i).text = kBool) : runW T c typ i = runW T c ((need cStar).bind fun _ => word.bind fun p => .ret (42 :: p.2)) i := by simp only [typ, runW, if_neg h0, if_neg h]

set_option maxRecDepth 100000 in
theorem pointer_any (s : ByteArray) (w : World) (hs : s.size ≤ 100000) : Calls Tryz.prog 115 #[.string s] w fun e w' => e = .returned (.string ⟨(42 :: s.data.toList).toArray⟩) ∧ w = w' := by
  go_enter Tryz.func115, Tryz.ntmps115
  go_wp2_with fail
  go_ret
  refine ⟨congrArg (fun x => Ending.returned (.string x)) (Go.WideShapes.bytes_inj ?_), rfl⟩
  simp

set_option maxRecDepth 100000 in
set_option maxHeartbeats 400000 in
theorem typeText_any (E : Env) (w : World) (i d : Nat) (c : Callee) (r : Res (List UInt8)) (h : RD E w i d) (hr : Hid (runW E.T c typ i = some r)) :
    Calls Tryz.prog 99 #[.pointer (some ⟨E.rb, 0, none⟩)] w (Q E w d VS r) := by
  have H := Lib.hid h
  have hf := tok_text
  clear h
  go_enter Tryz.func99, Tryz.ntmps99
  go_wp2_with fail
  by_cases ht : (E.T i).text = kInt
  · have HQ : Hid (r = .ok kInt (i + 1)) := by
      have := hr.out; rw [run_typ_int ht] at this; exact (Option.some.inj this).symm
    refine (take_yes E w i d ⟨#[105, 110, 116]⟩ H.out ht (Lib.hid (by decide))).mono ?_
    rintro e w1 ⟨rfl, hst⟩
    clear ht hr
    go_wp2_with fail
    go_ret
    rw [HQ.out]
    exact ⟨_, rfl, rfl, hst⟩
  · refine (take_no E w i d ⟨#[105, 110, 116]⟩ H.out ht).mono ?_
    rintro e w1 ⟨rfl, hb⟩
    have HT := Lib.hid ht
    have S1 := Lib.hid (ST.below (ST.refl H.out) hb)
    clear ht hb
    go_wp2_with fail
    by_cases ht2 : (E.T i).text = kBool
    · have HQ : Hid (r = .ok kBool (i + 1)) := by
        have := hr.out; rw [run_typ_bool HT.out ht2] at this; exact (Option.some.inj this).symm
      refine (take_yes E w1 i d ⟨#[98, 111, 111, 108]⟩ S1.out.1 ht2 (Lib.hid (by decide))).mono ?_
      rintro e w2 ⟨rfl, hst⟩
      have HS := Lib.hid (S1.out.trans hst)
      clear hst ht2 hr HT
      go_wp2_with fail
      go_ret
      rw [HQ.out]
      exact ⟨_, rfl, rfl, HS.out⟩
    · have HR : Hid (runW E.T c ((need cStar).bind fun _ => word.bind fun p => .ret (42 :: p.2)) i = some r) := by
        have := hr.out; rw [run_typ_else HT.out ht2] at this; exact this
      refine (take_no E w1 i d ⟨#[98, 111, 111, 108]⟩ S1.out.1 ht2).mono ?_
      rintro e w2 ⟨rfl, hb2⟩
      have S2 := Lib.hid (S1.out.below hb2)
      clear hr hb2 HT ht2 S1
      go_wp2_with fail
      rcases bind_cases HR.out with ⟨j, er, hx, hq⟩ | ⟨p0, j, hx, hq⟩
      · exact (need_any E w2 i d ⟨#[42]⟩ c _ S2.out.1 (Lib.hid (by decide)) hx).mono fun e w' h => by obtain ⟨rfl, hg⟩ := h; exact ⟨rfl, by rw [hq]; exact ⟨rfl, S2.out.2.trans hg⟩⟩
      refine (need_any E w2 i d ⟨#[42]⟩ c _ S2.out.1 (Lib.hid (by decide)) hx).mono ?_
      rintro e w3 ⟨v3, rfl, -, hst⟩
      have S3 := Lib.hid (S2.out.trans hst)
      have HR3 := Lib.hid hq
      clear hst HR hx hq S2
      go_wp2_with fail
      rcases bind_cases HR3.out with ⟨j2, er, hx, hq⟩ | ⟨p, j2, hx, hq⟩
      · exact (word_any E w3 j d c _ S3.out.1 hx).mono fun e w' h => by obtain ⟨rfl, hg⟩ := h; exact ⟨rfl, by rw [hq]; exact ⟨rfl, S3.out.2.trans hg⟩⟩
      refine (word_any E w3 j d c _ S3.out.1 hx).mono ?_
      rintro e w4 ⟨v4, rfl, ⟨hv, htx⟩, hst⟩
      have S4 := Lib.hid (S3.out.trans hst)
      obtain rfl := hv
      have HQ : Hid (r = .ok (42 :: p.2) j2) := (Option.some.inj hq).symm
      have hsz : (⟨(E.T p.1).text.toArray⟩ : ByteArray).size ≤ 100000 := by
        have := H.out.text p.1
        show (E.T p.1).text.toArray.size ≤ 100000
        simp; omega
      have HTX := Lib.hid htx
      clear hst htx hx hq HR3 S3
      unfold tokV
      go_wp2_with (go_at_call 115; refine (pointer_any _ _ hsz).mono ?_; rintro e w5 ⟨rfl, rfl⟩)
      go_ret
      rw [HQ.out]
      exact ⟨.string ⟨(42 :: (E.T p.1).text).toArray⟩, rfl, congrArg (fun l : List UInt8 => Value.string ⟨(42 :: l).toArray⟩) HTX.out, S4.out⟩

def nilS : Value := .slice none 0 0

set_option maxRecDepth 100000 in
set_option maxHeartbeats 800000 in
theorem typed_any (E : Env) (w : World) (i d op : Nat) (c : Callee) (r : Res Tree) (h : RD E w i d) (_ : op < 1000) (hr : Hid (runW E.T c (typed op) i = some r)) :
    Calls Tryz.prog 97 #[.pointer (some ⟨E.rb, 0, none⟩), .int .i64 op] w (Q E w d (VN E w.heap.size) r) := by
  have H := Lib.hid h
  have hr1 := h.lt
  have R1 := Lib.hid (ST.below (ST.refl h) (b1 w (.cells #[.pointer none] 25)))
  clear h
  go_enter Tryz.func97, Tryz.ntmps97
  go_wp2_with fail
  rcases bind_cases hr.out with ⟨j, er, hx, hq⟩ | ⟨p, j, hx, hq⟩
  · exact (word_any E _ i d c _ R1.out.1 hx).mono fun e w' h => by obtain ⟨rfl, hg⟩ := h; exact ⟨rfl, by rw [hq]; exact ⟨rfl, R1.out.2.trans hg⟩⟩
  refine (word_any E _ i d c _ R1.out.1 hx).mono ?_
  rintro e w1 ⟨v1, rfl, ⟨hv, htx⟩, hst⟩
  obtain rfl := hv
  have S1 := R1.out.trans hst
  have P1 := (PtrAt.new w none).kept hst.2 (by omega)
  have HR1 := Lib.hid hq
  clear hx hq hr hst
  unfold tokV
  have S2 := Lib.hid (S1.below (b1 w1 (.cells #[.int .i64 (E.T p.1).kind, .string ⟨(E.T p.1).text.toArray⟩, .int .i64 (E.pl p.1)] 46)))
  have P2 := Lib.hid (P1.below (b1 w1 (.cells #[.int .i64 (E.T p.1).kind, .string ⟨(E.T p.1).text.toArray⟩, .int .i64 (E.pl p.1)] 46)))
  have A2 := Lib.hid (TokAt.new w1 (E.T p.1).kind ⟨(E.T p.1).text.toArray⟩ (E.pl p.1))
  have HTX := Lib.hid htx
  have hs1 : w.heap.size < w1.heap.size := P1.lt
  clear htx S1 P1
  go_wp2_with fail
  generalize w1.alloc (.cells #[.int .i64 (E.T p.1).kind, .string ⟨(E.T p.1).text.toArray⟩, .int .i64 (E.pl p.1)] 46) = wa at *
  obtain ⟨l2, c0, c1, c2, -, -, -⟩ := A2.out
  obtain ⟨l1, q0, f0⟩ := P2.out
  rcases bind_cases HR1.out with ⟨j2, er, hx, hq⟩ | ⟨ty, j2, hx, hq⟩
  · have HX := Lib.hid hx
    have HQ := Lib.hid hq
    clear hx hq HR1
    go_region_dies
    all_goals
      refine (typeText_any E _ j d c _ (S2.out.1.below (Below.refl _ _).drew) HX).mono ?_
      rintro e w2 ⟨rfl, hg⟩
      exact ⟨rfl, by rw [HQ.out]; exact ⟨rfl, S2.out.2.trans ((kb_below (Below.refl _ _).drew).trans hg)⟩⟩
  · have HX := Lib.hid hx
    have HQ : Hid (r = .ok (.mk op p.2 ty 0 p.1 []) j2) := (Option.some.inj hq).symm
    clear hx hq HR1
    go_region_held3 (fun w' => w'.cell? ⟨w1.heap.size, 1, none⟩ = some (.string ⟨(E.T p.1).text.toArray⟩) ∧ w'.cell? ⟨w1.heap.size, 2, none⟩ = some (.int .i64 (E.pl p.1))) (first | exact ⟨c1, c2⟩ | exact ⟨c1', c2'⟩ | exact ⟨c1'', c2''⟩ | (refine ⟨?_, ?_⟩ <;> (rw [World.cell?_setCell_other _ _ _ _ (fun h => by injection h with h1; omega)]; assumption))) (first | (go_at_call 99; refine (typeText_any E _ j d c _ (S2.out.1.below (Below.refl _ _).drew) HX).mono ?_; rintro e w2 ⟨v2, rfl, hv, hst⟩; obtain rfl := hv; have c1' := (far hst.2 l2 (by omega) 1).trans c1; have c2' := (far hst.2 l2 (by omega) 2).trans c2; have HST := Lib.hid hst; clear hst) | (go_at_call 42; refine (newNode_any _ _ _ _ _ _ _ _ _).mono ?_; rintro e w3 ⟨rfl, hb3, hrow⟩; have c1'' := (hb3.cell (p := ⟨w1.heap.size, 1, none⟩) (Nat.lt_of_lt_of_le l2 HST.out.2.size)).trans c1'; have c2'' := (hb3.cell (p := ⟨w1.heap.size, 2, none⟩) (Nat.lt_of_lt_of_le l2 HST.out.2.size)).trans c2'; have HP3 := ((P2.out.below (Below.refl _ _).drew).kept HST.out.2 (by omega)).below hb3; have q3 := HP3.c0; have f3 := HP3.f0; have HB3 := Lib.hid hb3; have HROW := Lib.hid hrow; clear hrow hb3 HP3; unfold nodeV))
    go_wp2_with fail
    refine bodyPost_ret (v := nodeV w2.heap.size) (by unfold nodeV; simp [results, Tryz.results97, go_sem, q3]) rfl ?_
    rw [HQ.out]
    have hlt2 : w.heap.size < w2.heap.size := Nat.lt_of_lt_of_le (P2.out.below (Below.refl _ _).drew).lt HST.out.2.size
    have hrow := HROW.out
    rw [HTX.out] at hrow
    refine ⟨_, rfl, vn_end (node_mk (KidsIn.nil (fun x => w.heap.size < x) E.pl w2) HB3.out hrow hlt2 (fun _ h _ => h) (by omega)) _, ?_⟩
    exact ST.set H.out (((S2.out.below (Below.refl _ _).drew).trans HST.out).below HB3.out) _ _ (Nat.le_refl _) _

end Go.Proofs.YtfbejfoalnhihaaGreatDoor

/-
  WORDS FOR THE WALKS: what keeps nodes, kids and the reader; kids written out, and one more. No condition.
-/
namespace Go.Proofs.YtfbejfoalnhihaaGreatDoor
open Go.RowKit

theorem NodeAt.st {pl : Nat → Nat} {B rb : Nat} {w w' : World} {b : Nat} {t : Tree} (h : NodeAt (fun x => B < x) pl w b t) (hg : w.grownBy w' (some rb)) (hr : rb ≤ B) : NodeAt (fun x => B < x) pl w' b t :=
  h.kept (Keeps.grown hg fun b e hb => by obtain rfl := Option.some.inj e; exact absurd hb (by omega))
theorem NodeAt.bl {ok : Nat → Prop} {pl : Nat → Nat} {w w' : World} {b : Nat} {t : Tree} (h : NodeAt ok pl w b t) (hb : Below w.heap.size w w') : NodeAt ok pl w' b t := h.kept (Keeps.below hb)
theorem NodeAt.from {pl : Nat → Nat} {B C : Nat} {w : World} {b : Nat} {t : Tree} (h : NodeAt (fun x => C ≤ x) pl w b t) (hB : B < C) : NodeAt (fun x => B < x) pl w b t := h.weak fun _ hx _ => Nat.lt_of_lt_of_le hB hx
theorem NodeAt.over {pl : Nat → Nat} {B C : Nat} {w : World} {b : Nat} {t : Tree} (h : NodeAt (fun x => C < x) pl w b t) (hB : B ≤ C) : NodeAt (fun x => B < x) pl w b t := h.weak fun _ hx _ => Nat.lt_of_le_of_lt hB hx
theorem KidsIn.st {pl : Nat → Nat} {B rb : Nat} {w w' : World} {v : Value} {n : Nat} {ts : List Tree} (h : KidsIn (fun x => B < x) pl w v n ts) (hg : w.grownBy w' (some rb)) (hr : rb ≤ B) : KidsIn (fun x => B < x) pl w' v n ts :=
  h.keep hg (fun b e hb => by obtain rfl := Option.some.inj e; exact absurd hb (by omega)) fun _ h _ => h
theorem KidsIn.bl {ok : Nat → Prop} {pl : Nat → Nat} {w w' : World} {v : Value} {n : Nat} {ts : List Tree} (h : KidsIn ok pl w v n ts) (hb : Below w.heap.size w w') : KidsIn ok pl w' v n ts :=
  h.keep (row := none) ⟨hb.os, hb.tape, hb.output, hb.size, fun i hi _ => hb.block i hi⟩ (fun b e => by cases e) fun _ h _ => h
theorem KidsIn.from {pl : Nat → Nat} {B C : Nat} {w : World} {v : Value} {n : Nat} {ts : List Tree} (h : KidsIn (fun x => C ≤ x) pl w v n ts) (hB : B < C) : KidsIn (fun x => B < x) pl w v n ts :=
  h.keep (row := none) ⟨rfl, rfl, rfl, Nat.le_refl _, fun _ _ _ => rfl⟩ (fun b e => by cases e) fun _ hx _ => Nat.lt_of_lt_of_le hB hx
theorem KidsIn.over {pl : Nat → Nat} {B C : Nat} {w : World} {v : Value} {n : Nat} {ts : List Tree} (h : KidsIn (fun x => C < x) pl w v n ts) (hB : B ≤ C) : KidsIn (fun x => B < x) pl w v n ts :=
  h.keep (row := none) ⟨rfl, rfl, rfl, Nat.le_refl _, fun _ _ _ => rfl⟩ (fun b e => by cases e) fun _ hx _ => Nat.lt_of_le_of_lt hB hx
theorem KidsIn.up {pl : Nat → Nat} {B : Nat} {w : World} {v : Value} {n : Nat} {ts : List Tree} (h : KidsIn (fun x => B < x) pl w v n ts) : KidsIn (fun x => B ≤ x) pl w v n ts :=
  h.keep (row := none) ⟨rfl, rfl, rfl, Nat.le_refl _, fun _ _ _ => rfl⟩ (fun b e => by cases e) fun _ hx _ => Nat.le_of_lt hx

theorem own_mono {w : World} {base base' : Nat} {e : TypeId} {size : Nat} {v : Value} {n : Nat} {xs : List Value} (h : w.ownsRow base e size v n xs) (hb : base' ≤ base) : w.ownsRow base' e size v n xs := by
  refine ⟨h.1, ?_⟩
  rcases h.2 with h2 | ⟨g, cap, cur, h2, h3, h4⟩
  · exact .inl h2
  · exact .inr ⟨g, cap, cur, h2, Nat.le_trans hb h3, h4⟩
theorem kids_lit1 {pl : Nat → Nat} {B : Nat} {w : World} {b : Nat} {t : Tree} (h : NodeAt (fun x => B < x) pl w b t) (hB : B < w.heap.size) : KidsIn (fun x => B < x) pl (w.alloc (.cells #[.pointer (some ⟨b, 0, none⟩)] 25)) (.slice (some ⟨w.heap.size, 0, none⟩) 1 1) 1 [t] := by
  refine ⟨[b], World.ownsRow_lit w #[.pointer (some ⟨b, 0, none⟩)] 1 (Nat.zero_le _) (by simp only [maxLen]; omega) rfl, rfl, rfl, ?_, ?_⟩
  · intro g hg; obtain rfl := Option.some.inj hg; exact hB
  · intro k x t' hx ht
    rcases k with _ | k
    · obtain rfl := Option.some.inj hx
      obtain rfl := Option.some.inj ht
      exact h.keep (Keeps.below (b1 w _)) fun y hy hl => ⟨hy, fun e => by have h9 : w.heap.size = y := Option.some.inj e; omega⟩
    · simp at hx
theorem kids_lit2 {pl : Nat → Nat} {B : Nat} {w : World} {b c : Nat} {t u : Tree} (h : NodeAt (fun x => B < x) pl w b t) (h' : NodeAt (fun x => B < x) pl w c u) (hB : B < w.heap.size) : KidsIn (fun x => B < x) pl (w.alloc (.cells #[.pointer (some ⟨b, 0, none⟩), .pointer (some ⟨c, 0, none⟩)] 25)) (.slice (some ⟨w.heap.size, 0, none⟩) 2 2) 2 [t, u] := by
  refine ⟨[b, c], World.ownsRow_lit w #[.pointer (some ⟨b, 0, none⟩), .pointer (some ⟨c, 0, none⟩)] 2 (Nat.zero_le _) (by simp only [maxLen]; omega) rfl, rfl, rfl, ?_, ?_⟩
  · intro g hg; obtain rfl := Option.some.inj hg; exact hB
  · intro k x t' hx ht
    rcases k with _ | k
    · obtain rfl := Option.some.inj hx
      obtain rfl := Option.some.inj ht
      exact h.keep (Keeps.below (b1 w _)) fun y hy hl => ⟨hy, fun e => by have h9 : w.heap.size = y := Option.some.inj e; omega⟩
    · rcases k with _ | k
      · obtain rfl := Option.some.inj hx
        obtain rfl := Option.some.inj ht
        exact h'.keep (Keeps.below (b1 w _)) fun y hy hl => ⟨hy, fun e => by have h9 : w.heap.size = y := Option.some.inj e; omega⟩
      · simp at hx

theorem node_info : (Tryz.prog.info? 25).map (fun i => (i.zero, i.size, i.bytes)) = some (some (.agg #[.pointer none]), 1, 8) := by kernel_rfl

set_option maxRecDepth 10000 in
theorem wpList_append_kid {ops : Array Oper} {rest : List Oper} {o : Oper} {a : Act} {Q : Exit → Act → World → Prop} {w : World} (hgd : o.guard = none) (s x : Operand)
    (ho : o.op = .call { callee := .builtin .append, args := #[s, x], argTypes := #[63, 63] }) (B : Nat) (pl : Nat → Nat) (v : Value) (n : Nat) (ts : List Tree) (hs : a.eval s = v) (hk : KidsIn (fun x => B < x) pl w v n ts)
    (b : Nat) (t : Tree) (hb : NodeAt (fun x => B < x) pl w b t) (hvb : ∀ g, v.ownBlock = some g → NodeAt (fun x => B < x ∧ g ≠ x) pl w b t) (ad : Nat) (hx : a.eval x = .slice (some ⟨ad, 0, none⟩) 1 1) (hnews : w.cell? ⟨ad, 0, none⟩ = some (.pointer (some ⟨b, 0, none⟩))) (hn : n ≤ 6000) (hB : B < w.heap.size)
    (h : ∀ g cap w', KidsIn (fun x => B < x) pl w' (.slice (some ⟨g, 0, none⟩) (n + 1) cap) (n + 1) (ts ++ [t]) → w.grownBy w' v.ownBlock → (∀ y, v.ownBlock = some y → B < y) → wpList Tryz.prog ops Q rest (a.put o.dst (.slice (some ⟨g, 0, none⟩) (n + 1) cap)) w') : wpList Tryz.prog ops Q (o :: rest) a w := by
  obtain ⟨bs, h1, h2, h3, h4, h5⟩ := hk
  obtain ⟨i0, hi0, hz0, hz1, hz2⟩ := info_parts node_info
  refine wpList_append_lies _ hgd s x 63 ho 0 25 i0 _ 1 8 Tryz.underlying63 hi0 hz0 hz1 hz2 rfl (by omega) v n (ptrsOf bs) hs h1 ⟨ad, 0, none⟩ 1 1 [.pointer (some ⟨b, 0, none⟩)] hx rfl ?_ (by simp [Value.oneCell']) (by omega) (by simp only [maxLen]; omega) (by omega) (Nat.zero_le _) w.heap.size rfl ?_
  · intro j u hj
    rcases j with _ | j
    · obtain rfl := Option.some.inj hj; exact hnews
    · simp at hj
  · intro g cap w' hown hg hat hlt
    refine h g cap w' ⟨bs ++ [b], ?_, by simp [h2], by simp [h3], ?_, ?_⟩ hg h4
    · unfold ptrsOf at hown ⊢
      rw [List.map_append]; exact hown
    · intro y hy
      have hy' : g = y := Option.some.inj hy
      subst hy'
      rcases hat with e | e
      · exact h4 _ e
      · omega
    · intro k x' t' hx' ht'
      have hw : ∀ y, ((B < y ∧ v.ownBlock ≠ some y)) → y < w.heap.size → (B < y ∧ (Value.slice (some ⟨g, 0, none⟩) (n + 1) cap).ownBlock ≠ some y) := by
        intro y hy hl
        refine ⟨hy.1, fun e => ?_⟩
        have hy' : g = y := Option.some.inj e
        subst hy'
        rcases hat with e | e
        · exact hy.2 e
        · omega
      have hkp : Keeps (fun y => B < y ∧ v.ownBlock ≠ some y) w w' := Keeps.grown hg fun y e hy => hy.2 e
      rcases Nat.lt_or_ge k n with hkn | hkn
      · rw [List.getElem?_append_left (by omega)] at hx' ht'
        exact (h5 k x' t' hx' ht').keep hkp hw
      · rw [List.getElem?_append_right (by omega)] at hx' ht'
        have hk0 : k - bs.length = 0 := by
          have := (List.getElem?_eq_some_iff.1 hx').1
          simp at this; omega
        rw [hk0] at hx'
        rw [show k - ts.length = 0 by omega] at ht'
        obtain rfl := Option.some.inj hx'
        obtain rfl := Option.some.inj ht'
        refine NodeAt.keep (ok := fun y => B < y ∧ v.ownBlock ≠ some y) ?_ hkp hw
        cases hv : v.ownBlock with
        | none => exact hb.weak fun y hy _ => ⟨hy, by simp⟩
        | some g' => exact (hvb g' hv).weak fun y hy _ => ⟨hy.1, fun e => hy.2 (Option.some.inj e)⟩

theorem ST.grow {E : Env} {w0 w w' : World} {i0 d0 i d : Nat} {row : Option Nat} (R0 : RD E w0 i0 d0) (h : ST E w0 w i d) (hg : w.grownBy w' row) (hr : ∀ y, row = some y → w0.heap.size ≤ y) : ST E w0 w' i d := by
  have c : ∀ x o', x < w0.heap.size → w'.cell? ⟨x, o', none⟩ = w.cell? ⟨x, o', none⟩ := fun x o' hx => hg.cell_far ⟨x, o', none⟩ (Nat.lt_of_lt_of_le hx h.2.size) (fun e => by have := hr x e.symm; omega)
  have f : ∀ x o', x < w0.heap.size → w'.frozen? ⟨x, o', none⟩ = w.frozen? ⟨x, o', none⟩ := fun x o' hx => hg.frozen_far ⟨x, o', none⟩ (Nat.lt_of_lt_of_le hx h.2.size) (fun e => by have := hr x e.symm; omega)
  refine ⟨?_, kb_then h.2 hg fun j e => .inl (hr j e)⟩
  exact { h.1 with lt := Nat.lt_of_lt_of_le h.1.lt hg.size, llt := Nat.lt_of_lt_of_le h.1.llt hg.size, c0 := (c _ _ R0.lt).trans h.1.c0, c1 := (c _ _ R0.lt).trans h.1.c1, c2 := (c _ _ R0.lt).trans h.1.c2, fr := fun k => (f _ _ R0.lt).trans (h.1.fr k), k0 := fun k hk => (c _ _ R0.llt).trans (h.1.k0 k hk), k1 := fun k hk => (c _ _ R0.llt).trans (h.1.k1 k hk), k2 := fun k hk => (c _ _ R0.llt).trans (h.1.k2 k hk), good := h.1.good.low (low_grown hg (fun x e => Nat.le_trans R0.good.size (hr x e)) h.1.good.size) }
theorem PtrAt.grow {w w' : World} {b : Nat} {x : Option Addr} {row : Option Nat} (h : PtrAt w b x) (hg : w.grownBy w' row) (hne : row ≠ some b) : PtrAt w' b x :=
  ⟨Nat.lt_of_lt_of_le h.lt hg.size, (hg.cell_far ⟨b, 0, none⟩ h.lt (fun e => hne e.symm)).trans h.c0, (hg.frozen_far ⟨b, 0, none⟩ h.lt (fun e => hne e.symm)).trans h.f0⟩
theorem TokAt.grow {w w' : World} {b : Nat} {k : Int} {s : ByteArray} {p : Int} {row : Option Nat} (h : TokAt w b k s p) (hg : w.grownBy w' row) (hne : row ≠ some b) : TokAt w' b k s p :=
  ⟨Nat.lt_of_lt_of_le h.lt hg.size, (hg.cell_far ⟨b, 0, none⟩ h.lt (fun e => hne e.symm)).trans h.c0, (hg.cell_far ⟨b, 1, none⟩ h.lt (fun e => hne e.symm)).trans h.c1, (hg.cell_far ⟨b, 2, none⟩ h.lt (fun e => hne e.symm)).trans h.c2, (hg.frozen_far ⟨b, 0, none⟩ h.lt (fun e => hne e.symm)).trans h.f0, (hg.frozen_far ⟨b, 1, none⟩ h.lt (fun e => hne e.symm)).trans h.f1, (hg.frozen_far ⟨b, 2, none⟩ h.lt (fun e => hne e.symm)).trans h.f2⟩

theorem node_done {E : Env} {w w2 w3 : World} {i0 d0 i d n op pos B : Nat} {name typ : List UInt8} {num : Int} {v : Value} {ts : List Tree} (H : RD E w i0 d0) (hst : ST E w w2 i d) (hk : KidsIn (fun x => B < x) E.pl w2 v n ts) (hB : w.heap.size ≤ B) (hb : Below w2.heap.size w2 w3) (hrow : RowAt w3 w2.heap.size op ⟨name.toArray⟩ ⟨typ.toArray⟩ num (E.pl pos) v) (hlt : w.heap.size < w2.heap.size) (hn : n ≤ 6000) (u : Value) :
    Q E w d (VN E w.heap.size) (.ok (.mk op name typ num pos ts) i) (.returned (nodeV w2.heap.size)) (w3.setCell ⟨w.heap.size, 0, none⟩ u) :=
  ⟨_, rfl, vn_end (node_mk hk hb hrow hlt (fun _ h _ => Nat.lt_of_le_of_lt hB h) hn) _, ST.set H (hst.below hb) _ _ (Nat.le_refl _) _⟩
theorem pass_done {E : Env} {w w2 : World} {i0 d0 i d b B : Nat} {t : Tree} (H : RD E w i0 d0) (hst : ST E w w2 i d) (hn : NodeAt (fun x => B < x) E.pl w2 b t) (hB : w.heap.size ≤ B) (u : Value) :
    Q E w d (VN E w.heap.size) (.ok t i) (.returned (nodeV b)) (w2.setCell ⟨w.heap.size, 0, none⟩ u) :=
  ⟨_, rfl, vn_end (hn.over hB) _, ST.set H hst _ _ (Nat.le_refl _) _⟩

end Go.Proofs.YtfbejfoalnhihaaGreatDoor

/-
  CONTRACTS: what num.IsBinary, IsUnary, Level, Sign, Signed answer, at all arguments, where the table of signs lies as its initialiser lays it. The world is as it was.
-/
namespace Go.Proofs.YtfbejfoalnhihaaGreatDoor
open Go.RowKit

def binB (op : Int) : Bool := decide (1 ≤ op) && decide (op ≤ 16)
def unB (op : Int) : Bool := (op == 17) || (op == 18)
def signedV (s : ByteArray) (args : Int) : Int := if args = 1 then findN s.data.toList 17 2 else if args = 2 then findN s.data.toList 1 16 else 0
set_option maxRecDepth 100000 in
set_option maxHeartbeats 400000 in
theorem isBinary_any (op : Int) (w : World) : Calls Tryz.prog 124 #[.int .i64 op] w fun e w' => e = .returned (.bool (binB op)) ∧ w = w' := by
  go_enter Tryz.func124, Tryz.ntmps124
  go_wp2
  all_goals go_ret
  all_goals exact ⟨ret_bool (by unfold binB; first | (simp [*]; done) | (simp; omega)), rfl⟩
set_option maxRecDepth 100000 in
set_option maxHeartbeats 400000 in
theorem isUnary_any (op : Int) (w : World) : Calls Tryz.prog 125 #[.int .i64 op] w fun e w' => e = .returned (.bool (unB op)) ∧ w = w' := by
  go_enter Tryz.func125, Tryz.ntmps125
  go_wp2
  all_goals go_ret
  all_goals exact ⟨ret_bool (by simp [unB, *]), rfl⟩
set_option maxRecDepth 100000 in
set_option maxHeartbeats 400000 in
theorem level_any (op : Int) (w : World) : Calls Tryz.prog 178 #[.int .i64 op] w fun e w' => e = .returned (.int .i64 (levelV op)) ∧ w = w' := by
  go_enter Tryz.func178, Tryz.ntmps178
  go_wp2
  all_goals go_ret
  all_goals (refine ⟨ret_int ?_, rfl⟩; simp only [beq_iff_eq, beq_eq_false_iff_ne, ne_eq] at *; unfold levelV; (repeat' split) <;> omega)
theorem ret_ib {a b : Int} {c d : Bool} (h : a = b) (g : c = d) : Ending.returned (.tuple #[.int .i64 a, .bool c]) = .returned (.tuple #[.int .i64 b, .bool d]) := by rw [h, g]
set_option maxRecDepth 100000 in
set_option maxHeartbeats 400000 in
theorem sign_none (op : Int) (w : World) (h : op < 1 ∨ 18 < op) : Calls Tryz.prog 109 #[.int .i64 op] w fun e w' => e = .returned (.string (signS op)) ∧ w = w' := by
  have e1 : binB op = false := by unfold binB; simp; omega
  have e2 : unB op = false := by unfold unB; simp; omega
  have hv : signS op = ⟨#[]⟩ := by simp [signS, signL, h]
  rw [hv]
  clear hv
  go_enter Tryz.func109, Tryz.ntmps109
  go_wp2_with (first | (go_at_call 124; refine (isBinary_any _ _).mono ?_; rintro e w' ⟨rfl, rfl⟩) | (go_at_call 125; refine (isUnary_any _ _).mono ?_; rintro e w' ⟨rfl, rfl⟩))
  go_ret
  exact ⟨rfl, rfl⟩
set_option maxRecDepth 100000 in
set_option maxHeartbeats 400000 in
theorem sign_some (op : Int) (w : World) (h1 : 1 ≤ op) (h2 : op ≤ 18) (hS : SignsIn w) : Calls Tryz.prog 109 #[.int .i64 op] w fun e w' => e = .returned (.string (signS op)) ∧ w = w' := by
  obtain ⟨k, rfl⟩ := Int.eq_ofNat_of_zero_le (show 0 ≤ op by omega)
  have hv : signS (k : Int) = ⟨(signTab.getD k []).toArray⟩ := by
    unfold signS signL; rw [if_neg (by omega), Int.toNat_natCast]
  have hc := hS k (by omega)
  rw [hv]
  clear hv hS
  generalize (⟨(signTab.getD k []).toArray⟩ : ByteArray) = s at *
  by_cases h3 : (k : Int) ≤ 16
  · have e1 : binB (k : Int) = true := by unfold binB; simp; omega
    go_enter Tryz.func109, Tryz.ntmps109
    go_wp2_with (first | (go_at_call 124; refine (isBinary_any _ _).mono ?_; rintro e w' ⟨rfl, rfl⟩) | (go_at_call 125; refine (isUnary_any _ _).mono ?_; rintro e w' ⟨rfl, rfl⟩))
    go_ret
    exact ⟨rfl, rfl⟩
  · have e1 : binB (k : Int) = false := by unfold binB; simp; omega
    have e2 : unB (k : Int) = true := by unfold unB; simp; omega
    go_enter Tryz.func109, Tryz.ntmps109
    go_wp2_with (first | (go_at_call 124; refine (isBinary_any _ _).mono ?_; rintro e w' ⟨rfl, rfl⟩) | (go_at_call 125; refine (isUnary_any _ _).mono ?_; rintro e w' ⟨rfl, rfl⟩))
    go_ret
    exact ⟨rfl, rfl⟩
theorem sign_any (op : Int) (w : World) (hS : SignsIn w) : Calls Tryz.prog 109 #[.int .i64 op] w fun e w' => e = .returned (.string (signS op)) ∧ w = w' := by
  by_cases h : op < 1 ∨ 18 < op
  · exact sign_none op w h
  · exact sign_some op w (by omega) (by omega) hS
theorem find_hit (l : List UInt8) (k n : Nat) (h : signTab.getD k [] = l) : findN l k (n + 1) = k := by rw [findN, if_pos h]
theorem find_miss (l : List UInt8) (k n : Nat) (h : ¬ signTab.getD k [] = l) : findN l k (n + 1) = findN l (k + 1) n := by
  rw [findN, if_neg h]
set_option maxRecDepth 100000 in
set_option maxHeartbeats 400000 in
theorem among_any (s : ByteArray) (a n : Nat) (w : World) (h1 : 1 ≤ a) (h2 : a + n ≤ 19) (hS : SignsIn w) :
    Calls Tryz.prog 181 #[.string s, .int .i64 a, .int .i64 ((a + n : Nat) - 1 : Int)] w fun e w' => e = .returned (.tuple #[.int .i64 (findN s.data.toList a n), .bool (findN s.data.toList a n != 0)]) ∧ w = w' := by
  have HS := Lib.hid hS
  clear hS
  obtain ⟨b, hb⟩ : ∃ b : Int, b = ((a + n : Nat) - 1 : Int) := ⟨_, rfl⟩
  obtain ⟨l, hl⟩ : ∃ l : Nat, l = a + n := ⟨_, rfl⟩
  have hn : n = l - a := by omega
  rw [← hb]
  subst hn
  have Hb : b + 1 = l := by omega
  have HB := Lib.hid Hb
  have hb1 : b ≤ 18 := by omega
  have hal : a ≤ l := by omega
  clear hb hl Hb
  obtain ⟨q, hq⟩ : ∃ q : Int, q = findN s.data.toList a (l - a) := ⟨_, rfl⟩
  rw [← hq]
  have HQ := Lib.hid hq
  clear hq
  go_enter Tryz.func181, Tryz.ntmps181
  go_wp2
  go_loop [8] (fun i => ∃ k : Nat, a ≤ k ∧ k ≤ l ∧ i = .int .i64 k ∧ Hid (q = findN s.data.toList k (l - k))) (fun i => 19 - (intOf i).toNat)
  case atStart => exact ⟨a, Nat.le_refl _, by omega, rfl, HQ⟩
  case round =>
    obtain ⟨k, hk1, hk2, rfl, HK⟩ := hrel
    have hbl := HB.out
    by_cases hlt : (k : Int) ≤ b
    · have hc := HS.out k (by omega)
      by_cases hm : signTab.getD k [] = s.data.toList
      · have hf : q = k := by rw [HK.out, show l - k = (l - k - 1) + 1 by omega, find_hit _ _ _ hm]
        have HF := Lib.hid hf
        have hk18 : k < 19 := by omega
        clear hf hbl
        have hsb : (⟨(signTab.getD k []).toArray⟩ : ByteArray) = s := by rw [hm]
        rw [hsb] at hc
        clear hsb hm HK
        go_wp2
        go_ret2
        exact ⟨ret_ib HF.out.symm (by rw [HF.out]; simp; omega), rfl⟩
      · have hf : q = findN s.data.toList (k + 1) (l - (k + 1)) := by rw [HK.out, show l - k = (l - k - 1) + 1 by omega, find_miss _ _ _ hm]; rfl
        have HF := Lib.hid hf
        have hk18 : k < 19 := by omega
        have hne : ((signTab.getD k []) == s.toList) = false := by
          simp; intro e; apply hm; rw [List.getD_eq_getElem?_getD, e]; exact ByteArray.toList_eq s
        clear hf hbl hm HK
        generalize signTab.getD k [] = t at hc hne
        go_wp2
        go_round
        case rel => exact ⟨k + 1, by omega, by have := HB.out; omega, by go_num, HF⟩
        case measure => simp [intOf]; omega
    · have hf : q = 0 := by rw [HK.out, show l - k = 0 by omega]; rfl
      have HF := Lib.hid hf
      clear hf HK
      go_wp2
      go_ret2
      exact ⟨ret_ib HF.out.symm (by rw [HF.out]; rfl), rfl⟩
set_option maxRecDepth 100000 in
set_option maxHeartbeats 400000 in
theorem signed_any (s : ByteArray) (args : Int) (w : World) (hS : SignsIn w) : Calls Tryz.prog 176 #[.string s, .int .i64 args] w fun e w' => e = .returned (.tuple #[.int .i64 (signedV s args), .bool (signedV s args != 0)]) ∧ w = w' := by
  have HS := Lib.hid hS
  clear hS
  by_cases h1 : args = 1
  · subst h1
    have hv : signedV s 1 = findN s.data.toList 17 2 := by simp [signedV]
    rw [hv]
    clear hv
    go_enter Tryz.func176, Tryz.ntmps176
    go_wp2_with (go_at_call 181; refine (among_any _ 17 2 _ (by omega) (by omega) HS.out).mono ?_; rintro e w' ⟨rfl, rfl⟩)
    go_ret2
    exact ⟨rfl, rfl⟩
  · by_cases h2 : args = 2
    · subst h2
      have hv : signedV s 2 = findN s.data.toList 1 16 := by simp [signedV]
      rw [hv]
      clear hv
      go_enter Tryz.func176, Tryz.ntmps176
      go_wp2_with (go_at_call 181; refine (among_any _ 1 16 _ (by omega) (by omega) HS.out).mono ?_; rintro e w' ⟨rfl, rfl⟩)
      go_ret2
      exact ⟨rfl, rfl⟩
    · have hv : signedV s args = 0 := by simp [signedV, h1, h2]
      have b1 : (args == 1) = false := by simpa using h1
      have b2 : (args == 2) = false := by simpa using h2
      rw [hv]
      clear hv h1 h2
      go_enter Tryz.func176, Tryz.ntmps176
      go_wp2
      go_ret2
      exact ⟨rfl, rfl⟩

end Go.Proofs.YtfbejfoalnhihaaGreatDoor

/-
  WORDS FOR THE WALKS: how a run of the grammar is taken apart; what is supposed of calls one step down. No condition.
-/
namespace Go.Proofs.YtfbejfoalnhihaaGreatDoor
open Go.RowKit

theorem last_cases {α : Type} {x : Option (Res α)} {r : Res α} (h : x = some r) : (∃ j e, x = some (.bad j e) ∧ r = .bad j e) ∨ (∃ a j, x = some (.ok a j) ∧ r = .ok a j) := by
  cases r with
  | ok a j => exact .inr ⟨a, j, h, rfl⟩
  | bad j e => exact .inl ⟨j, e, h, rfl⟩
section
variable {α : Type} {T : Nat → AT} {c : Callee} {i : Nat} {r : Res α}
theorem peek_yes {K : List UInt8} {A B : Nat → AT → Pr α} (h : runW T c (.peek fun i t => if t.text = K then A i t else B i t) i = some r) (ht : (T i).text = K) : runW T c (A i (T i)) i = some r := by
  simp only [runW, if_pos ht] at h; exact h
theorem peek_no {K : List UInt8} {A B : Nat → AT → Pr α} (h : runW T c (.peek fun i t => if t.text = K then A i t else B i t) i = some r) (ht : ¬ (T i).text = K) : runW T c (B i (T i)) i = some r := by
  simp only [runW, if_neg ht] at h; exact h
theorem ite_yes {b : Prop} [Decidable b] {A B : Pr α} (h : runW T c (if b then A else B) i = some r) (hb : b) : runW T c A i = some r := by rw [if_pos hb] at h; exact h
theorem ite_no {b : Prop} [Decidable b] {A B : Pr α} (h : runW T c (if b then A else B) i = some r) (hb : ¬ b) : runW T c B i = some r := by rw [if_neg hb] at h; exact h
theorem run_peek {k : Nat → AT → Pr α} (h : runW T c (.peek k) i = some r) : runW T c (k i (T i)) i = some r := h
theorem run_next {p : Pr α} (h : runW T c (.next p) i = some r) : runW T c p (i + 1) = some r := h
theorem run_fail {e : Nat} (h : runW T c (.fail e) i = some r) : r = .bad i e := (Option.some.inj h).symm
theorem run_ret {a : α} (h : runW T c (.ret a) i = some r) : r = .ok a i := (Option.some.inj h).symm
theorem call_some {nt : NT} {d : Nat} {f : List Tree → Pr α} (h : runW T c (.call nt d f) i = some r) : ∃ rs, c nt d i = some rs ∧ (∀ j e, rs = .bad j e → r = .bad j e) ∧ (∀ a j, rs = .ok a j → runW T c (f a) j = some r) := by
  rcases call_cases h with ⟨j, e, h1, h2⟩ | ⟨a, j, h1, h2⟩
  · exact ⟨_, h1, fun j' e' g => by cases g; exact h2, fun a j' g => by cases g⟩
  · exact ⟨_, h1, fun j' e' g => by (cases g), fun a' j' g => by cases g; exact h2⟩
end
def preR (ks : List Tree) : Res (List Tree) → Res (List Tree)
  | .ok ts j => .ok (ks ++ ts) j
  | .bad j e => .bad j e
theorem preR_nil (r : Res (List Tree)) : preR [] r = r := by cases r <;> rfl
theorem P_prog {T : Nat → AT} {z : Nat} (S : Sent T z) {m d i j : Nat} {nt : NT} {ts : List Tree} (hok : okNT nt) (hi : i ≤ z) (h : P T m nt d i = some (.ok ts j)) : i + minc nt ≤ j ∧ j ≤ z := by
  obtain ⟨r, h1, h2⟩ := P_total S (max m (4 * (z - i) + rank nt + 1)) nt d i hok hi (by omega)
  have := P_mono T (Nat.le_max_left m (4 * (z - i) + rank nt + 1)) _ _ _ _ h
  rw [this] at h1
  exact h2 ts j (Option.some.inj h1).symm
theorem tot_prog {α : Type} {T : Nat → AT} {z : Nat} {c : Callee} {k : Nat} {p : Pr α} {i j : Nat} {a : α} (h : Tot T z c k p i) (hr : runW T c p i = some (.ok a j)) : i + k ≤ j ∧ j ≤ z := by
  obtain ⟨r, h1, h2⟩ := h
  rw [hr] at h1
  exact h2 a j (Option.some.inj h1).symm
theorem P_pos {T : Nat → AT} {m : Nat} {nt : NT} {d i : Nat} {r : Res (List Tree)} (h : P T m nt d i = some r) : ∃ m', m = m' + 1 ∧ runW T (P T m') (body nt d) i = some r := by
  cases m with
  | zero => cases h
  | succ m => exact ⟨m, rfl, h⟩
/-- Where the reader stands. -/
def nx (E : Env) (w : World) : Nat := match w.cell? ⟨E.rb, 1, none⟩ with | some (.int _ i) => i.toNat | _ => 0
theorem RD.at_nx {E : Env} {w : World} {i d : Nat} (h : RD E w i d) : nx E w = i := by unfold nx; rw [h.c1]; simp

theorem KidsIn.lt {ok : Nat → Prop} {pl : Nat → Nat} {w : World} {v : Value} {n : Nat} {ts : List Tree} (h : KidsIn ok pl w v n ts) : ∀ g, v.ownBlock = some g → g < w.heap.size := by
  obtain ⟨bs, h1, -⟩ := h
  exact fun g hg => (h1.lt g hg).2
/-- A loop that gathers kids: so many are read, and the run of the others is known. -/
def KRel (E : Env) (n : Nat) (w : World) (B : Nat) (nt : NT) (d : Nat) (rs : Res (List Tree)) (v : Value) (wr : World) : Prop :=
  ∃ (m k i : Nat) (ts : List Tree) (r : Res (List Tree)), m ≤ n ∧ k ≤ i ∧ B < wr.heap.size ∧ Hid (P E.T m nt d i = some r) ∧ Hid (rs = preR ts r) ∧ Hid (KidsIn (fun x => B < x) E.pl wr v k ts) ∧ Hid (ST E w wr i d) ∧ Hid (PtrAt wr w.heap.size none)
/-- The same of a method that hands back a list, and has no block of its own. -/
def KRelL (E : Env) (n : Nat) (w : World) (nt : NT) (dn d : Nat) (rs : Res (List Tree)) (v : Value) (wr : World) : Prop :=
  ∃ (m k i : Nat) (ts : List Tree) (r : Res (List Tree)), m ≤ n ∧ k ≤ i ∧ w.heap.size ≤ wr.heap.size ∧ Hid (P E.T m nt dn i = some r) ∧ Hid (rs = preR ts r) ∧ Hid (KidsIn (fun x => w.heap.size - 1 < x) E.pl wr v k ts) ∧ Hid (ST E w wr i d)
/-- The same with a token in the block B. -/
def KRelT (E : Env) (n : Nat) (w : World) (B : Nat) (nt : NT) (dn d : Nat) (kd : Int) (s : ByteArray) (p : Int) (rs : Res (List Tree)) (v : Value) (wr : World) : Prop :=
  ∃ (m k i : Nat) (ts : List Tree) (r : Res (List Tree)), m ≤ n ∧ k ≤ i ∧ B < wr.heap.size ∧ Hid (P E.T m nt dn i = some r) ∧ Hid (rs = preR ts r) ∧ Hid (KidsIn (fun x => B < x) E.pl wr v k ts) ∧ Hid (ST E w wr i d) ∧ Hid (PtrAt wr w.heap.size none) ∧ Hid (TokAt wr B kd s p)
theorem vl_end {E : Env} {w wr : World} {v : Value} {k : Nat} {ts : List Tree} (h : KidsIn (fun x => w.heap.size - 1 < x) E.pl wr v k ts) (hk : k ≤ 5001) : VL E w.heap.size ts v wr := by
  have hl : ts.length = k := by obtain ⟨bs, -, -, h3, -⟩ := h; exact h3
  refine ⟨by omega, ?_⟩
  rw [hl]
  exact h.keep (row := none) ⟨rfl, rfl, rfl, Nat.le_refl _, fun _ _ _ => rfl⟩ (fun b e => by cases e) fun x hx _ => by omega
theorem preR_ok {ks : List Tree} {rs : Res (List Tree)} {a : List Tree} {j : Nat} (h : preR ks rs = .ok a j) : ∃ a', rs = .ok a' j ∧ a = ks ++ a' := by
  cases rs with
  | ok x y => injection h with h1 h2; exact ⟨x, by rw [h2], h1.symm⟩
  | bad x y => cases h
theorem preR_bad {ks : List Tree} {rs : Res (List Tree)} {j e : Nat} (h : preR ks rs = .bad j e) : rs = .bad j e := by
  cases rs with
  | ok x y => cases h
  | bad x y => exact h
theorem preR_pre (a b : List Tree) (r : Res (List Tree)) : preR a (preR b r) = preR (a ++ b) r := by cases r <;> simp [preR]
/-- A node out of a list of one. -/
def VH (E : Env) (lo : Nat) (ts : List Tree) (v : Value) (w' : World) : Prop := VN E lo (hd ts) v w'
structure IH (E : Env) (n : Nat) : Prop where
  binary : ∀ (w : World) (i d l : Nat) (r : Res (List Tree)), 1 ≤ l → l ≤ 6 → RD E w i d → Hid (P E.T n (.binary l) d i = some r) → Calls Tryz.prog 153 #[.pointer (some ⟨E.rb, 0, none⟩), .int .i64 l] w (Q E w d (VH E w.heap.size) r)
  unary : ∀ (w : World) (i d : Nat) (r : Res (List Tree)), RD E w i d → Hid (P E.T n .unary d i = some r) → Calls Tryz.prog 167 #[.pointer (some ⟨E.rb, 0, none⟩)] w (Q E w d (VH E w.heap.size) r)
  stmt : ∀ (w : World) (i d : Nat) (r : Res (List Tree)), RD E w i d → Hid (P E.T n .stmt d i = some r) → Calls Tryz.prog 117 #[.pointer (some ⟨E.rb, 0, none⟩)] w (Q E w d (VH E w.heap.size) r)
  branch : ∀ (w : World) (i d : Nat) (r : Res (List Tree)), RD E w i d → Hid (P E.T n .branch d i = some r) → Calls Tryz.prog 129 #[.pointer (some ⟨E.rb, 0, none⟩)] w (Q E w d (VH E w.heap.size) r)

end Go.Proofs.YtfbejfoalnhihaaGreatDoor

/-
  CONTRACTS: get, Op, Name, Type, N, At, Kids of a node, and of the zero one; fieldOf; levelOf. Of what was there nothing has turned.
-/
namespace Go.Proofs.YtfbejfoalnhihaaGreatDoor
open Go.RowKit

def rowV (op : Int) (name typ : ByteArray) (n p : Int) (A : Option Addr) (m c : Nat) : Value := .agg #[.int .i64 op, .string name, .string typ, .int .i64 n, .int .i64 p, .slice A m c]

set_option maxRecDepth 100000 in
set_option maxHeartbeats 400000 in
theorem get_any (w : World) (b : Nat) (op : Int) (name typ : ByteArray) (n p : Int) (A : Option Addr) (m c : Nat) (h : RowAt w b op name typ n p (.slice A m c)) :
    Calls Tryz.prog 30 #[.agg #[.pointer (some ⟨b, 0, none⟩)]] w fun e w' => e = .returned (rowV op name typ n p A m c) ∧ Below w.heap.size w w' := by
  obtain ⟨hl, h0, h1, h2, h3, h4, h5⟩ := h
  go_enter Tryz.func30, Tryz.ntmps30
  go_wp2_with fail
  refine bodyPost_ret (v := rowV op name typ n p A m c) (by unfold rowV; simp [results, Tryz.results30, go_sem]) rfl ⟨rfl, ?_⟩
  exact (b1 w _).trans ((b1 _ _).mono (by simp))

set_option maxRecDepth 100000 in
set_option maxHeartbeats 400000 in
theorem get_zero (w : World) :
    Calls Tryz.prog 30 #[.agg #[.pointer none]] w fun e w' => e = .returned (rowV 0 ⟨#[]⟩ ⟨#[]⟩ 0 0 none 0 0) ∧ Below w.heap.size w w' := by
  go_enter Tryz.func30, Tryz.ntmps30
  go_wp2_with fail
  refine bodyPost_ret (v := rowV 0 ⟨#[]⟩ ⟨#[]⟩ 0 0 none 0 0) (by unfold rowV; simp [results, Tryz.results30, go_sem]) rfl ⟨rfl, ?_⟩
  exact (b1 w _).trans ((b1 _ _).mono (by simp))

theorem row_op : ∀ (op : Int) (name typ : ByteArray) (n p : Int) (A : Option Addr) (m c : Nat) (w : World), (Instr.field 65 (.agg #[.int .i64 op, .string name, .string typ, .int .i64 n, .int .i64 p, .slice A m c]) 0).run Tryz.prog w = .ok (.int .i64 op) w := fun _ _ _ _ _ _ _ _ _ => by kernel_rfl
theorem row_name : ∀ (op : Int) (name typ : ByteArray) (n p : Int) (A : Option Addr) (m c : Nat) (w : World), (Instr.field 65 (.agg #[.int .i64 op, .string name, .string typ, .int .i64 n, .int .i64 p, .slice A m c]) 1).run Tryz.prog w = .ok (.string name) w := fun _ _ _ _ _ _ _ _ _ => by kernel_rfl
theorem row_typ : ∀ (op : Int) (name typ : ByteArray) (n p : Int) (A : Option Addr) (m c : Nat) (w : World), (Instr.field 65 (.agg #[.int .i64 op, .string name, .string typ, .int .i64 n, .int .i64 p, .slice A m c]) 2).run Tryz.prog w = .ok (.string typ) w := fun _ _ _ _ _ _ _ _ _ => by kernel_rfl
theorem row_n : ∀ (op : Int) (name typ : ByteArray) (n p : Int) (A : Option Addr) (m c : Nat) (w : World), (Instr.field 65 (.agg #[.int .i64 op, .string name, .string typ, .int .i64 n, .int .i64 p, .slice A m c]) 3).run Tryz.prog w = .ok (.int .i64 n) w := fun _ _ _ _ _ _ _ _ _ => by kernel_rfl
theorem row_at : ∀ (op : Int) (name typ : ByteArray) (n p : Int) (A : Option Addr) (m c : Nat) (w : World), (Instr.field 65 (.agg #[.int .i64 op, .string name, .string typ, .int .i64 n, .int .i64 p, .slice A m c]) 4).run Tryz.prog w = .ok (.int .i64 p) w := fun _ _ _ _ _ _ _ _ _ => by kernel_rfl
theorem row_kids : ∀ (op : Int) (name typ : ByteArray) (n p : Int) (A : Option Addr) (m c : Nat) (w : World), (Instr.field 65 (.agg #[.int .i64 op, .string name, .string typ, .int .i64 n, .int .i64 p, .slice A m c]) 5).run Tryz.prog w = .ok (.slice A m c) w := fun _ _ _ _ _ _ _ _ _ => by kernel_rfl

/-- The row that a block reads as, or of none. -/
def RowOf (w : World) (x : Option Addr) (op : Int) (name typ : ByteArray) (n p : Int) (A : Option Addr) (m c : Nat) : Prop :=
  (∃ b, x = some ⟨b, 0, none⟩ ∧ RowAt w b op name typ n p (.slice A m c)) ∨ (x = none ∧ op = 0 ∧ name = ⟨#[]⟩ ∧ typ = ⟨#[]⟩ ∧ n = 0 ∧ p = 0 ∧ A = none ∧ m = 0 ∧ c = 0)
theorem RowAt.below {w w' : World} {b : Nat} {op : Int} {name typ : ByteArray} {n p : Int} {kv : Value} (h : RowAt w b op name typ n p kv) (hb : Below w.heap.size w w') : RowAt w' b op name typ n p kv :=
  ⟨Nat.lt_of_lt_of_le h.lt hb.size, (hb.cell (p := ⟨b, 0, none⟩) h.lt).trans h.h0, (hb.cell (p := ⟨b, 1, none⟩) h.lt).trans h.h1, (hb.cell (p := ⟨b, 2, none⟩) h.lt).trans h.h2, (hb.cell (p := ⟨b, 3, none⟩) h.lt).trans h.h3, (hb.cell (p := ⟨b, 4, none⟩) h.lt).trans h.h4, (hb.cell (p := ⟨b, 5, none⟩) h.lt).trans h.h5⟩
theorem RowOf.below {w w' : World} {x : Option Addr} {op : Int} {name typ : ByteArray} {n p : Int} {A : Option Addr} {m c : Nat} (h : RowOf w x op name typ n p A m c) (hb : Below w.heap.size w w') : RowOf w' x op name typ n p A m c := by
  rcases h with ⟨b, h1, h2⟩ | h
  · exact .inl ⟨b, h1, h2.below hb⟩
  · exact .inr h
theorem b1t {w w' : World} {o : Obj} (h : Below (w.alloc o).heap.size (w.alloc o) w') : Below w.heap.size w w' := (b1 w o).trans (h.mono (by simp))
theorem get_of (w : World) (x : Option Addr) (op : Int) (name typ : ByteArray) (n p : Int) (A : Option Addr) (m c : Nat) (h : RowOf w x op name typ n p A m c) :
    Calls Tryz.prog 30 #[.agg #[.pointer x]] w fun e w' => e = .returned (rowV op name typ n p A m c) ∧ Below w.heap.size w w' := by
  rcases h with ⟨b, rfl, h⟩ | ⟨rfl, rfl, rfl, rfl, rfl, rfl, rfl, rfl, rfl⟩
  · exact get_any w b op name typ n p A m c h
  · exact get_zero w

set_option maxRecDepth 100000 in
theorem op_of (w : World) (x : Option Addr) (op : Int) (name typ : ByteArray) (n p : Int) (A : Option Addr) (m c : Nat) (h : RowOf w x op name typ n p A m c) :
    Calls Tryz.prog 11 #[.agg #[.pointer x]] w fun e w' => e = .returned (.int .i64 op) ∧ Below w.heap.size w w' := by
  have H := Lib.hid (get_of _ x op name typ n p A m c (h.below (b1 w (.cells #[.pointer x] 25))))
  have hf := row_op
  clear h
  go_enter Tryz.func11, Tryz.ntmps11
  go_wp2_with fail
  refine H.out.mono ?_
  rintro e w1 ⟨rfl, hb⟩
  unfold rowV
  clear H
  go_wp2_with fail
  go_ret
  exact ⟨rfl, b1t hb⟩
set_option maxRecDepth 100000 in
theorem name_of (w : World) (x : Option Addr) (op : Int) (name typ : ByteArray) (n p : Int) (A : Option Addr) (m c : Nat) (h : RowOf w x op name typ n p A m c) :
    Calls Tryz.prog 35 #[.agg #[.pointer x]] w fun e w' => e = .returned (.string name) ∧ Below w.heap.size w w' := by
  have H := Lib.hid (get_of _ x op name typ n p A m c (h.below (b1 w (.cells #[.pointer x] 25))))
  have hf := row_name
  clear h
  go_enter Tryz.func35, Tryz.ntmps35
  go_wp2_with fail
  refine H.out.mono ?_
  rintro e w1 ⟨rfl, hb⟩
  unfold rowV
  clear H
  go_wp2_with fail
  go_ret
  exact ⟨rfl, b1t hb⟩
set_option maxRecDepth 100000 in
theorem typ_of (w : World) (x : Option Addr) (op : Int) (name typ : ByteArray) (n p : Int) (A : Option Addr) (m c : Nat) (h : RowOf w x op name typ n p A m c) :
    Calls Tryz.prog 36 #[.agg #[.pointer x]] w fun e w' => e = .returned (.string typ) ∧ Below w.heap.size w w' := by
  have H := Lib.hid (get_of _ x op name typ n p A m c (h.below (b1 w (.cells #[.pointer x] 25))))
  have hf := row_typ
  clear h
  go_enter Tryz.func36, Tryz.ntmps36
  go_wp2_with fail
  refine H.out.mono ?_
  rintro e w1 ⟨rfl, hb⟩
  unfold rowV
  clear H
  go_wp2_with fail
  go_ret
  exact ⟨rfl, b1t hb⟩
set_option maxRecDepth 100000 in
theorem n_of (w : World) (x : Option Addr) (op : Int) (name typ : ByteArray) (n p : Int) (A : Option Addr) (m c : Nat) (h : RowOf w x op name typ n p A m c) :
    Calls Tryz.prog 23 #[.agg #[.pointer x]] w fun e w' => e = .returned (.int .i64 n) ∧ Below w.heap.size w w' := by
  have H := Lib.hid (get_of _ x op name typ n p A m c (h.below (b1 w (.cells #[.pointer x] 25))))
  have hf := row_n
  clear h
  go_enter Tryz.func23, Tryz.ntmps23
  go_wp2_with fail
  refine H.out.mono ?_
  rintro e w1 ⟨rfl, hb⟩
  unfold rowV
  clear H
  go_wp2_with fail
  go_ret
  exact ⟨rfl, b1t hb⟩
set_option maxRecDepth 100000 in
theorem at_of (w : World) (x : Option Addr) (op : Int) (name typ : ByteArray) (n p : Int) (A : Option Addr) (m c : Nat) (h : RowOf w x op name typ n p A m c) :
    Calls Tryz.prog 24 #[.agg #[.pointer x]] w fun e w' => e = .returned (.int .i64 p) ∧ Below w.heap.size w w' := by
  have H := Lib.hid (get_of _ x op name typ n p A m c (h.below (b1 w (.cells #[.pointer x] 25))))
  have hf := row_at
  clear h
  go_enter Tryz.func24, Tryz.ntmps24
  go_wp2_with fail
  refine H.out.mono ?_
  rintro e w1 ⟨rfl, hb⟩
  unfold rowV
  clear H
  go_wp2_with fail
  go_ret
  exact ⟨rfl, b1t hb⟩
set_option maxRecDepth 100000 in
theorem kids_of (w : World) (x : Option Addr) (op : Int) (name typ : ByteArray) (n p : Int) (A : Option Addr) (m c : Nat) (h : RowOf w x op name typ n p A m c) :
    Calls Tryz.prog 12 #[.agg #[.pointer x]] w fun e w' => e = .returned (.int .i64 m) ∧ Below w.heap.size w w' := by
  have H := Lib.hid (get_of _ x op name typ n p A m c (h.below (b1 w (.cells #[.pointer x] 25))))
  have hf := row_kids
  clear h
  go_enter Tryz.func12, Tryz.ntmps12
  go_wp2_with fail
  refine H.out.mono ?_
  rintro e w1 ⟨rfl, hb⟩
  unfold rowV
  clear H
  go_wp2_with fail
  go_ret
  exact ⟨rfl, b1t hb⟩

theorem NodeAt.row {ok : Nat → Prop} {pl : Nat → Nat} {w : World} {b : Nat} {t : Tree} (h : NodeAt ok pl w b t) : ∃ A c, RowAt w b t.op ⟨t.name.toArray⟩ ⟨t.typ.toArray⟩ t.n (pl t.pos) (.slice A t.kids.length c) ∧ t.kids.length ≤ c := by
  cases h with
  | mk A c bs hb hok h0 h1 h2 h3 h4 h5 hc => exact ⟨A, c, ⟨hb, h0, h1, h2, h3, h4, h5⟩, hc⟩
theorem NodeAt.rowOf {ok : Nat → Prop} {pl : Nat → Nat} {w : World} {b : Nat} {t : Tree} (h : NodeAt ok pl w b t) : ∃ A c, RowOf w (some ⟨b, 0, none⟩) t.op ⟨t.name.toArray⟩ ⟨t.typ.toArray⟩ t.n (pl t.pos) A t.kids.length c := by
  obtain ⟨A, c, h1, -⟩ := h.row
  exact ⟨A, c, .inl ⟨b, rfl, h1⟩⟩

set_option maxRecDepth 100000 in
set_option maxHeartbeats 400000 in
theorem levelOf_any (s : ByteArray) (w : World) (hS : SignsIn w) : Calls Tryz.prog 168 #[.string s] w fun e w' => e = .returned (.int .i64 (lvl s.data.toList : Nat)) ∧ w = w' := by
  by_cases h1 : s.data.toList = cOr
  · obtain rfl : s = ⟨#[124, 124]⟩ := Go.WideShapes.bytes_inj h1
    go_enter Tryz.func168, Tryz.ntmps168
    go_wp2_with fail
    go_ret
    exact ⟨rfl, rfl⟩
  · by_cases h2 : s.data.toList = cAnd
    · obtain rfl : s = ⟨#[38, 38]⟩ := Go.WideShapes.bytes_inj h2
      go_enter Tryz.func168, Tryz.ntmps168
      go_wp2_with fail
      go_ret
      exact ⟨rfl, rfl⟩
    · have hv : (lvl s.data.toList : Int) = levelV (findN s.data.toList 1 16) := by
        unfold lvl; rw [if_neg h1, if_neg h2]; have := (levelV_nn (findN s.data.toList 1 16)).1; omega
      have hs2 : signedV s 2 = findN s.data.toList 1 16 := by simp [signedV]
      obtain ⟨op, hop⟩ : ∃ op, findN s.data.toList 1 16 = op := ⟨_, rfl⟩
      rw [hop] at hv hs2
      rw [hv]
      have n1 : (s.toList == [124, 124]) = false := by rw [ByteArray.toList_eq]; simpa using h1
      have n2 : (s.toList == [38, 38]) = false := by rw [ByteArray.toList_eq]; simpa using h2
      have HS := Lib.hid (signed_any s 2 w hS)
      have H2 := Lib.hid hs2
      clear h1 h2 hv hs2 hS hop
      by_cases h0 : op = 0
      · subst h0
        go_enter Tryz.func168, Tryz.ntmps168
        go_wp2_with fail
        refine HS.out.mono ?_
        rintro e w1 ⟨rfl, rfl⟩
        rw [H2.out]
        clear HS H2
        go_wp2_with fail
        go_ret
        exact ⟨rfl, rfl⟩
      · have hb : (op != 0) = true := by simpa using h0
        go_enter Tryz.func168, Tryz.ntmps168
        go_wp2_with fail
        refine HS.out.mono ?_
        rintro e w1 ⟨rfl, rfl⟩
        rw [H2.out, hb]
        clear HS H2 hb h0
        go_wp2_with (go_at_call 178; refine (level_any _ _).mono ?_; rintro e w2 ⟨rfl, rfl⟩)
        go_ret
        exact ⟨rfl, rfl⟩

end Go.Proofs.YtfbejfoalnhihaaGreatDoor

/-
  CONTRACTS: single, number, fieldOf, pair. Nobody but the reader's own block has turned.
-/
namespace Go.Proofs.YtfbejfoalnhihaaGreatDoor
open Go.RowKit

theorem b2 (w : World) (o o' : Obj) : Below w.heap.size w ((w.alloc o).alloc o') := (b1 w o).trans ((b1 _ o').mono (by simp))

/-- Six cells of a row lie at b, and may be written. -/
structure RowF (w : World) (b : Nat) (op : Int) (name typ : ByteArray) (n p : Int) (kv : Value) : Prop extends RowAt w b op name typ n p kv where
  fr : ∀ k, w.frozen? ⟨b, k, none⟩ = false
theorem RowF.below {w w' : World} {b : Nat} {op : Int} {name typ : ByteArray} {n p : Int} {kv : Value} (h : RowF w b op name typ n p kv) (hb : Below w.heap.size w w') : RowF w' b op name typ n p kv :=
  ⟨h.toRowAt.below hb, fun k => (hb.frozen (p := ⟨b, k, none⟩) h.lt).trans (h.fr k)⟩
theorem RowF.new (w : World) (op : Int) (name typ : ByteArray) (n p : Int) (A : Option Addr) (m c : Nat) : RowF (w.alloc (.cells #[.int .i64 op, .string name, .string typ, .int .i64 n, .int .i64 p, .slice A m c] 65)) w.heap.size op name typ n p (.slice A m c) := by
  refine ⟨⟨by simp, ?_, ?_, ?_, ?_, ?_, ?_⟩, ?_⟩
  all_goals first | (intro k; simp [go_sem]) | simp [go_sem]

set_option maxRecDepth 100000 in
set_option maxHeartbeats 400000 in
theorem single_any (E : Env) (w : World) (i d op : Nat) (num : Int) (h : RD E w i d) (hi : i < E.z) :
    Calls Tryz.prog 156 #[.pointer (some ⟨E.rb, 0, none⟩), .agg #[.int .i64 op, .string ⟨#[]⟩, .string ⟨#[]⟩, .int .i64 num, .int .i64 0, .slice none 0 0]] w (Q E w d (VN E w.heap.size) (.ok (.mk op [] [] num i []) (i + 1))) := by
  have H := Lib.hid h
  have hr1 := h.lt
  have hf2 := tok_at
  have hz := h.zle
  have S0 := Lib.hid (ST.below (ST.refl h) (b2 w (.cells #[.int .i64 op, .string ⟨#[]⟩, .string ⟨#[]⟩, .int .i64 num, .int .i64 0, .slice none 0 0] 65) (.cells #[.pointer none] 25)))
  have F0 := Lib.hid ((RowF.new w op ⟨#[]⟩ ⟨#[]⟩ num 0 none 0 0).below (b1 _ (.cells #[.pointer none] 25)))
  have P0 := Lib.hid (PtrAt.new (w.alloc (.cells #[.int .i64 op, .string ⟨#[]⟩, .string ⟨#[]⟩, .int .i64 num, .int .i64 0, .slice none 0 0] 65)) none)
  clear h
  rw [show (w.alloc (.cells #[.int .i64 op, .string ⟨#[]⟩, .string ⟨#[]⟩, .int .i64 num, .int .i64 0, .slice none 0 0] 65)).heap.size = w.heap.size + 1 by simp] at P0
  have l0 := P0.out.lt
  go_enter Tryz.func156, Tryz.ntmps156
  go_wp2_with fail
  generalize (w.alloc (.cells #[.int .i64 op, .string ⟨#[]⟩, .string ⟨#[]⟩, .int .i64 num, .int .i64 0, .slice none 0 0] 65)).alloc (.cells #[.pointer none] 25) = wa at *
  refine (peek_any E _ i d S0.out.1).mono ?_
  rintro e w1 ⟨rfl, hb⟩
  unfold tokV
  have F1 := F0.out.below hb
  have P1 := Lib.hid (P0.out.below hb)
  have S1 := Lib.hid (S0.out.below hb)
  have z1 := hb.size
  clear hb F0 P0
  have c4 := F1.h4
  have f4 := F1.fr 4
  have r1 := S1.out.1.c1
  have r2 := S1.out.1.fr 1
  have c0 := F1.h0
  have c1 := F1.h1
  have c2 := F1.h2
  have c3 := F1.h3
  have c5 := F1.h5
  clear F1
  have hne : ¬ w.heap.size = E.rb := by omega
  go_wp2_with fail
  have S2 : Hid (ST E w ((w1.setCell ⟨w.heap.size, 4, none⟩ (.int .i64 (E.pl i))).setCell ⟨E.rb, 1, none⟩ (.int .i64 (i + 1 : Nat))) (i + 1) d) := (ST.set H.out S1.out _ _ (Nat.le_refl _) _).setI (i + 1) (by omega)
  have P2 : Hid (PtrAt ((w1.setCell ⟨w.heap.size, 4, none⟩ (.int .i64 (E.pl i))).setCell ⟨E.rb, 1, none⟩ (.int .i64 (i + 1 : Nat))) (w.heap.size + 1) none) := (P1.out.kept (kb_set _ _ _) (by show w.heap.size + 1 ≠ w.heap.size; omega)).kept (kb_set _ _ _) (by show w.heap.size + 1 ≠ E.rb; omega)
  rw [show ((i + 1 : Nat) : Int) = (i : Int) + 1 by omega] at S2 P2
  generalize (w1.setCell ⟨w.heap.size, 4, none⟩ (.int .i64 (E.pl i))).setCell ⟨E.rb, 1, none⟩ (.int .i64 ((i : Int) + 1)) = w2 at *
  refine (newNode_any _ _ _ _ _ _ _ _ _).mono ?_
  rintro e wz ⟨rfl, hb9, hrow⟩
  have P9 := P2.out.below hb9
  have q0 := P9.c0
  have f0 := P9.f0
  have l2 := P2.out.lt
  have HB9 := Lib.hid hb9
  have HROW := Lib.hid hrow
  clear hb9 hrow P9
  unfold nodeV
  go_wp2_with fail
  refine bodyPost_ret (v := nodeV w2.heap.size) (by unfold nodeV; simp [results, Tryz.results156, go_sem, q0]) rfl ?_
  refine ⟨_, rfl, ⟨_, rfl, (node_mk (ok' := fun x => w.heap.size + 1 < x) (KidsIn.nil (fun x => w.heap.size + 1 < x) E.pl w2) HB9.out HROW.out l2 (fun _ h _ => h) (by omega)).keep (Keeps.set _ _ _ (Nat.lt_irrefl _)) fun x hx _ => by omega⟩, ST.set H.out (S2.out.below HB9.out) _ _ (by omega) _⟩

end Go.Proofs.YtfbejfoalnhihaaGreatDoor

/-
  CONTRACTS: Kid, Size of a node. Of what was there nothing has turned.
-/
namespace Go.Proofs.YtfbejfoalnhihaaGreatDoor
open Go.RowKit

mutual
def sizeT : Tree → Nat
  | .mk _ _ _ _ _ ks => sizeL ks + 1
def sizeL : List Tree → Nat
  | [] => 0
  | t :: r => sizeT t + sizeL r
end
theorem sizeT_eq (t : Tree) : sizeT t = sizeL t.kids + 1 := by cases t; rfl
theorem sizeL_append (a b : List Tree) : sizeL (a ++ b) = sizeL a + sizeL b := by
  induction a with
  | nil => simp [sizeL]
  | cons x r ih => simp only [List.cons_append, sizeL, ih]; omega

theorem NodeAt.kid {ok : Nat → Prop} {pl : Nat → Nat} {w : World} {b : Nat} {t : Tree} (h : NodeAt ok pl w b t) : ∃ A c, RowAt w b t.op ⟨t.name.toArray⟩ ⟨t.typ.toArray⟩ t.n (pl t.pos) (.slice A t.kids.length c) ∧ t.kids.length ≤ c ∧ t.kids.length ≤ 6000 ∧ ∀ k u, t.kids[k]? = some u → ∃ g x, A = some ⟨g, 0, none⟩ ∧ g < w.heap.size ∧ ok g ∧ w.cell? ⟨g, k, none⟩ = some (.pointer (some ⟨x, 0, none⟩)) ∧ NodeAt ok pl w x u := by
  cases h with
  | mk A c bs hb hok h0 h1 h2 h3 h4 h5 hc hk hl hs ht =>
    refine ⟨A, c, ⟨hb, h0, h1, h2, h3, h4, h5⟩, hc, hk, fun k u hu => ?_⟩
    obtain ⟨x, hx⟩ : ∃ x, bs[k]? = some x := ⟨_, List.getElem?_eq_getElem (by have := (List.getElem?_eq_some_iff.1 hu).1; rw [hl]; exact this)⟩
    obtain ⟨g, hg1, hg2, hg3, hg4⟩ := hs k x hx
    exact ⟨g, x, hg1, hg2, hg3, hg4, ht k x u hx hu⟩

set_option maxRecDepth 100000 in
set_option maxHeartbeats 400000 in
theorem kid_none (w : World) (x : Option Addr) (op : Int) (name typ : ByteArray) (n p : Int) (A : Option Addr) (m c : Nat) (i : Int) (h : RowOf w x op name typ n p A m c) (hi : i < 0 ∨ (m : Int) ≤ i) :
    Calls Tryz.prog 21 #[.agg #[.pointer x], .int .i64 i] w fun e w' => e = .returned (.agg #[.pointer none]) ∧ Below w.heap.size w w' := by
  have H := Lib.hid (get_of _ x op name typ n p A m c (h.below (b2 w (.cells #[.pointer x] 25) (.cells #[.pointer none] 25))))
  have hf := row_kids
  clear h
  have hb2' := Lib.hid (b2 w (.cells #[.pointer x] 25) (.cells #[.pointer none] 25))
  have hP := PtrAt.new (w.alloc (.cells #[.pointer x] 25)) none
  rw [show (w.alloc (.cells #[.pointer x] 25)).heap.size = w.heap.size + 1 by simp] at hP
  have HP := Lib.hid hP
  clear hP
  by_cases h0 : i < 0
  · go_enter Tryz.func21, Tryz.ntmps21
    go_wp2_with fail
    generalize (w.alloc (.cells #[.pointer x] 25)).alloc (.cells #[.pointer none] 25) = wa at *
    refine H.out.mono ?_
    rintro e w1 ⟨rfl, hb⟩
    unfold rowV
    have P1 := HP.out.below hb
    have q0 := P1.c0
    have f0 := P1.f0
    have HB := Lib.hid (hb2'.out.trans (hb.mono hb2'.out.size))
    clear H P1 HP hb
    go_wp2_with fail
    refine bodyPost_ret (v := .agg #[.pointer none]) (by simp [results, Tryz.results21, go_sem, q0]) rfl ⟨rfl, ?_⟩
    exact HB.out.setCell (p := ⟨w.heap.size + 1, 0, none⟩) (Nat.le_succ _) _
  · have h1 : (m : Int) ≤ i := by omega
    go_enter Tryz.func21, Tryz.ntmps21
    go_wp2_with fail
    generalize (w.alloc (.cells #[.pointer x] 25)).alloc (.cells #[.pointer none] 25) = wa at *
    refine H.out.mono ?_
    rintro e w1 ⟨rfl, hb⟩
    unfold rowV
    have P1 := HP.out.below hb
    have q0 := P1.c0
    have f0 := P1.f0
    have HB := Lib.hid (hb2'.out.trans (hb.mono hb2'.out.size))
    clear H P1 HP hb
    go_wp2_with fail
    refine bodyPost_ret (v := .agg #[.pointer none]) (by simp [results, Tryz.results21, go_sem, q0]) rfl ⟨rfl, ?_⟩
    exact HB.out.setCell (p := ⟨w.heap.size + 1, 0, none⟩) (Nat.le_succ _) _

set_option maxRecDepth 100000 in
set_option maxHeartbeats 400000 in
theorem kid_some (w : World) (x : Option Addr) (op : Int) (name typ : ByteArray) (n p : Int) (g m c : Nat) (k nb : Nat) (h : RowOf w x op name typ n p (some ⟨g, 0, none⟩) m c) (hk : k < m) (_ : m ≤ c) (_ : m ≤ 6000) (hg : g < w.heap.size) (hc : w.cell? ⟨g, k, none⟩ = some (.pointer (some ⟨nb, 0, none⟩))) :
    Calls Tryz.prog 21 #[.agg #[.pointer x], .int .i64 k] w fun e w' => e = .returned (.agg #[.pointer (some ⟨nb, 0, none⟩)]) ∧ Below w.heap.size w w' := by
  have H := Lib.hid (get_of _ x op name typ n p _ m c (h.below (b2 w (.cells #[.pointer x] 25) (.cells #[.pointer none] 25))))
  have hf := row_kids
  clear h
  have hb2' := Lib.hid (b2 w (.cells #[.pointer x] 25) (.cells #[.pointer none] 25))
  have hP := PtrAt.new (w.alloc (.cells #[.pointer x] 25)) none
  rw [show (w.alloc (.cells #[.pointer x] 25)).heap.size = w.heap.size + 1 by simp] at hP
  have HP := Lib.hid hP
  have HC := Lib.hid hc
  have hi1 : ¬ (k : Int) < 0 := by omega
  have hi2 : ¬ (m : Int) ≤ (k : Int) := by omega
  have hi3 : (k : Int) < (m : Int) := by omega
  clear hP hc
  go_enter Tryz.func21, Tryz.ntmps21
  go_wp2_with fail
  generalize (w.alloc (.cells #[.pointer x] 25)).alloc (.cells #[.pointer none] 25) = wa at *
  refine H.out.mono ?_
  rintro e w1 ⟨rfl, hb⟩
  unfold rowV
  have P1 := HP.out.below hb
  have q0 := P1.c0
  have f0 := P1.f0
  have hbb := hb2'.out.trans (hb.mono hb2'.out.size)
  have ck := (hbb.cell (p := ⟨g, k, none⟩) hg).trans HC.out
  have HB := Lib.hid hbb
  clear H P1 HP hb hbb
  go_wp2_with fail
  refine bodyPost_ret (v := .agg #[.pointer (some ⟨nb, 0, none⟩)]) (by simp [results, Tryz.results21, go_sem, q0]) rfl ⟨rfl, ?_⟩
  exact HB.out.setCell (p := ⟨w.heap.size + 1, 0, none⟩) (Nat.le_succ _) _

/-- Kid at a place that is there. -/
theorem kid_at {ok : Nat → Prop} {pl : Nat → Nat} {w : World} {b : Nat} {t : Tree} (h : NodeAt ok pl w b t) (k : Nat) (u : Tree) (hu : t.kids[k]? = some u) : ∃ nb, NodeAt ok pl w nb u ∧ Calls Tryz.prog 21 #[.agg #[.pointer (some ⟨b, 0, none⟩)], .int .i64 k] w fun e w' => e = .returned (.agg #[.pointer (some ⟨nb, 0, none⟩)]) ∧ Below w.heap.size w w' := by
  obtain ⟨A, c, hr, h1, h2, h3⟩ := h.kid
  obtain ⟨g, x, rfl, hg, -, hc, hn⟩ := h3 k u hu
  exact ⟨x, hn, kid_some w _ _ _ _ _ _ g _ c k x (.inl ⟨b, rfl, hr⟩) (List.getElem?_eq_some_iff.1 hu).1 h1 h2 hg hc⟩
theorem kid_out {ok : Nat → Prop} {pl : Nat → Nat} {w : World} {b : Nat} {t : Tree} (h : NodeAt ok pl w b t) (i : Int) (hi : i < 0 ∨ (t.kids.length : Int) ≤ i) : Calls Tryz.prog 21 #[.agg #[.pointer (some ⟨b, 0, none⟩)], .int .i64 i] w fun e w' => e = .returned (.agg #[.pointer none]) ∧ Below w.heap.size w w' := by
  obtain ⟨A, c, hr⟩ := h.rowOf
  exact kid_none w _ _ _ _ _ _ _ _ _ i hr hi

set_option maxRecDepth 100000 in
theorem size_zero' (w : World) : Calls Tryz.prog 13 #[.agg #[.pointer none]] w fun e w' => e = .returned (.int .i64 0) ∧ Below w.heap.size w w' := by
  go_enter Tryz.func13, Tryz.ntmps13
  go_wp2_with fail
  go_ret
  exact ⟨rfl, b1 w _⟩

def SzRel (ks : List Tree) (w : World) (v i : Value) (wr : World) : Prop := ∃ k : Nat, k ≤ ks.length ∧ i = .int .i64 k ∧ v = .int .i64 (wrap64 (sizeL (ks.take k) + 1)) ∧ Below w.heap.size w wr
theorem sizeL_take (ks : List Tree) (k : Nat) (u : Tree) (h : ks[k]? = some u) : sizeL (ks.take (k + 1)) = sizeL (ks.take k) + sizeT u := by
  have hk := (List.getElem?_eq_some_iff.1 h).1
  have e := (List.getElem?_eq_some_iff.1 h).2
  rw [List.take_succ_eq_append_getElem hk, sizeL_append, e]
  simp [sizeL]
theorem wrap_add (a b : Int) : wrap64 (wrap64 a + wrap64 b) = wrap64 (a + b) := by unfold wrap64; omega
theorem sizeT_pos (t : Tree) : 0 < sizeT t := by rw [sizeT_eq]; omega
theorem size_kid {t u : Tree} {k : Nat} (h : t.kids[k]? = some u) : sizeT u < sizeT t := by
  rw [sizeT_eq t]
  have h1 := sizeL_take t.kids k u h
  have h2 := sizeL_append (t.kids.take (k + 1)) (t.kids.drop (k + 1))
  rw [List.take_append_drop] at h2
  omega

set_option maxRecDepth 100000 in
set_option maxHeartbeats 400000 in
theorem size_any (N : Nat) : ∀ (t : Tree), sizeT t ≤ N → ∀ (w : World) (b : Nat) (ok : Nat → Prop) (pl : Nat → Nat), NodeAt ok pl w b t → Calls Tryz.prog 13 #[.agg #[.pointer (some ⟨b, 0, none⟩)]] w fun e w' => e = .returned (.int .i64 (wrap64 (sizeT t))) ∧ Below w.heap.size w w' := by
  induction N with
  | zero => intro t h; have := sizeT_pos t; omega
  | succ N ih =>
    intro t hN w b ok pl h
    obtain ⟨A, c, hr, h1, h2, h3⟩ := h.kid
    have hb0 := hr.lt
    have c5 := hr.h5
    have hsz : (sizeT t : Int) = (sizeL t.kids : Int) + 1 := by rw [sizeT_eq]; omega
    rw [hsz]
    have HK := Lib.hid h3
    have hkk : Hid (∀ k u, t.kids[k]? = some u → sizeT u ≤ N) := fun k u hu => by have := size_kid hu; omega
    clear hr h3 h hsz hN
    obtain ⟨ks, hks⟩ : ∃ ks, t.kids = ks := ⟨_, rfl⟩
    rw [hks] at h1 h2 c5 HK hkk ⊢
    clear hks
    obtain ⟨m, hm⟩ : ∃ m, ks.length = m := ⟨_, rfl⟩
    rw [hm] at h1 h2 c5
    have HM := Lib.hid hm
    clear hm
    go_enter Tryz.func13, Tryz.ntmps13
    go_wp2_with fail
    go_loopw [3, 15] (fun v i wr => SzRel ks w v i wr) (fun _ i _ => m - (intOf i).toNat)
    case atStart => exact ⟨0, Nat.zero_le _, rfl, by simp [sizeL, wrap64], b1 w _⟩
    case round =>
      obtain ⟨k, hk, rfl, rfl, hb⟩ := hrel
      rw [HM.out] at hk
      by_cases hlt : k < m
      · obtain ⟨u, hu⟩ : ∃ u, ks[k]? = some u := ⟨_, List.getElem?_eq_getElem (by rw [HM.out]; exact hlt)⟩
        obtain ⟨g, x, rfl, hg, -, hc, hn⟩ := HK.out k u hu
        have ck := (hb.cell (p := ⟨g, k, none⟩) hg).trans hc
        have HST := Lib.hid (sizeL_take ks k u hu)
        have HU := Lib.hid (hkk.out k u hu)
        have HN := Lib.hid ((hn.bl hb).bl (b1 wr (.cells #[.pointer (some ⟨x, 0, none⟩)] 25)))
        have HB := Lib.hid (hb.trans ((b1 wr (.cells #[.pointer (some ⟨x, 0, none⟩)] 25)).mono hb.size))
        clear hc hn hu hb
        go_wp2_with fail
        refine (ih u HU.out _ x ok pl HN.out).mono ?_
        rintro e w1 ⟨rfl, hb1⟩
        have HB1 := Lib.hid (HB.out.trans (hb1.mono HB.out.size))
        clear hb1 ck
        go_wp2_with fail
        go_roundw
        case rel => exact ⟨k + 1, by rw [HM.out]; omega, by go_num, by rw [HST.out]; show Value.int .i64 _ = Value.int .i64 _; rw [wrap_add]; congr 2; omega, HB1.out⟩
        case measure => simp [intOf]; omega
      · obtain rfl : k = m := by omega
        rw [List.take_of_length_le (by rw [HM.out]; exact Nat.le_refl _)]
        go_wp2_with fail
        go_ret
        exact ⟨rfl, hb⟩

end Go.Proofs.YtfbejfoalnhihaaGreatDoor

/-
  CONTRACTS: strings.CutPrefix at *, Elem of package kind. The world is as it was.
-/
namespace Go.Proofs.YtfbejfoalnhihaaGreatDoor
open Go.RowKit

def starB (t : ByteArray) : Bool := Lib.hasPrefix t.data.toList [42]
def tailOf (t : ByteArray) : ByteArray := t.extract 1 t.size
def elemO (t : ByteArray) : Option ByteArray := if starB t && wordB (tailOf t).data.toList then some (tailOf t) else none
def starT : ByteArray := ⟨#[42]⟩
theorem star_nil : starB ⟨#[]⟩ = false := by decide
theorem star_head (s : ByteArray) (h : 0 < s.size) : starB s = decide (s[0].toNat = 42) := by
  obtain ⟨r, hr⟩ := head_at s h
  unfold starB
  rw [hr]
  unfold Lib.hasPrefix
  simp only [List.isPrefixOf, Bool.and_true]
  rw [Bool.eq_iff_iff, beq_iff_eq, decide_eq_true_eq]
  constructor
  · intro e; rw [← e]; rfl
  · intro e; exact (UInt8.toNat_inj.1 (by rw [e]; rfl)).symm
theorem head_extract (s : ByteArray) (h : 0 < s.size) : (s.extract 0 1).data.toList = [s[0]] := by
  obtain ⟨r, hr⟩ := head_at s h
  rw [ByteArray.data_extract, Array.toList_extract, List.extract_eq_take_drop, hr]; rfl

set_option maxRecDepth 100000 in
set_option maxHeartbeats 400000 in
theorem hasStar_any (s : ByteArray) (b : Bool) (w : World) (hb : Hid (starB s = b)) :
    Calls Tryz.prog 90 #[.string s, .string ⟨#[42]⟩] w fun e w' => e = .returned (.bool b) ∧ w = w' := by
  by_cases h0 : s.size = 0
  · have := size_zero h0
    subst this
    obtain rfl : b = false := hb.out.symm.trans star_nil
    clear hb h0
    go_enter Tryz.func90, Tryz.ntmps90
    go_wp2_with fail
    go_ret
    exact ⟨rfl, rfl⟩
  · have hp : 0 < s.size := by omega
    have h1 : (1 : Int) ≤ (s.size : Int) := by omega
    have h1' : 1 ≤ s.size := by omega
    have h2 : ((s.extract 0 1).toList == [42]) = b := by
      rw [ByteArray.toList_eq, head_extract s hp, ← hb.out, star_head s hp, Bool.eq_iff_iff, beq_iff_eq, decide_eq_true_eq]
      constructor
      · intro e; injection e with e; rw [e]; rfl
      · intro e; rw [UInt8.toNat_inj.1 (show s[0].toNat = (42 : UInt8).toNat from e)]
    clear hb h0 hp
    go_enter Tryz.func90, Tryz.ntmps90
    go_wp2_with fail
    go_ret
    exact ⟨rfl, rfl⟩

theorem star_size {s : ByteArray} (h : starB s = true) : 0 < s.size := by
  rcases Nat.eq_zero_or_pos s.size with h0 | h0
  · rw [size_zero h0, star_nil] at h; cases h
  · exact h0
theorem cutL_yes (s : ByteArray) (w : World) (hb : Hid (starB s = true)) :
    Calls Tryz.prog 135 #[.string s, .string ⟨#[42]⟩] w fun e w' => e = .returned (.tuple #[.string (tailOf s), .bool true]) ∧ w = w' := by
  have h1 := star_size hb.out
  have h2 : (1 : Int) ≤ (s.size : Int) := by omega
  go_enter Tryz.func135, Tryz.ntmps135
  go_wp2_with (go_at_call 90; refine (hasStar_any _ true _ hb).mono ?_; rintro e w' ⟨rfl, rfl⟩)
  go_ret2
  exact ⟨rfl, rfl⟩
theorem cutL_no (s : ByteArray) (w : World) (hb : Hid (starB s = false)) :
    Calls Tryz.prog 135 #[.string s, .string ⟨#[42]⟩] w fun e w' => e = .returned (.tuple #[.string s, .bool false]) ∧ w = w' := by
  go_enter Tryz.func135, Tryz.ntmps135
  go_wp2_with (go_at_call 90; refine (hasStar_any _ false _ hb).mono ?_; rintro e w' ⟨rfl, rfl⟩)
  go_ret2
  exact ⟨rfl, rfl⟩
theorem cut_yes (s : ByteArray) (w : World) (hb : Hid (starB s = true)) :
    Calls Tryz.prog 121 #[.string s, .string ⟨#[42]⟩] w fun e w' => e = .returned (.tuple #[.string (tailOf s), .bool true]) ∧ w = w' := by
  go_enter Tryz.func121, Tryz.ntmps121
  go_wp2_with (go_at_call 135; refine (cutL_yes _ _ hb).mono ?_; rintro e w' ⟨rfl, rfl⟩)
  go_ret2
  exact ⟨rfl, rfl⟩
theorem cut_no (s : ByteArray) (w : World) (hb : Hid (starB s = false)) :
    Calls Tryz.prog 121 #[.string s, .string ⟨#[42]⟩] w fun e w' => e = .returned (.tuple #[.string s, .bool false]) ∧ w = w' := by
  go_enter Tryz.func121, Tryz.ntmps121
  go_wp2_with (go_at_call 135; refine (cutL_no _ _ hb).mono ?_; rintro e w' ⟨rfl, rfl⟩)
  go_ret2
  exact ⟨rfl, rfl⟩

theorem isWord_to (s : ByteArray) (b : Bool) (w : World) (hK : Hid (KeysIn w)) (h : Hid (wordB s.data.toList = b)) : Calls Tryz.prog 122 #[.string s] w fun e w' => e = .returned (.bool b) ∧ w = w' := by
  by_cases hs : s.size ≤ 281474976710656
  · rw [← h.out]; exact isWord_any s w hs hK.out
  · have h0 : s.toList.isEmpty = false := size_pos_isEmpty (by omega)
    have hi : (12 : Int) < (s.size : Int) := by omega
    obtain rfl : b = false := h.out.symm.trans (by unfold wordB; rw [len_size, decide_eq_false (by omega)]; rfl)
    go_enter Tryz.func122, Tryz.ntmps122
    go_wp2_with fail
    go_ret
    exact ⟨rfl, rfl⟩

def elemV : Option ByteArray → Value
  | some n => .tuple #[.string n, .bool true]
  | none => .tuple #[.string ⟨#[]⟩, .bool false]

set_option maxRecDepth 100000 in
set_option maxHeartbeats 400000 in
theorem elem_any (t : ByteArray) (r : Option ByteArray) (w : World) (hK : Hid (KeysIn w)) (hr : Hid (elemO t = r)) :
    Calls Tryz.prog 106 #[.string t] w fun e w' => e = .returned (elemV r) ∧ w = w' := by
  cases h1 : starB t with
  | false =>
    obtain rfl : r = none := hr.out.symm.trans (by unfold elemO; rw [h1]; rfl)
    have H1 := Lib.hid h1
    clear h1 hr
    go_enter Tryz.func106, Tryz.ntmps106
    go_wp2_with (go_at_call 121; refine (cut_no _ _ H1).mono ?_; rintro e w' ⟨rfl, rfl⟩)
    go_ret2
    exact ⟨rfl, rfl⟩
  | true =>
    have H1 := Lib.hid h1
    cases h2 : wordB (tailOf t).data.toList with
    | false =>
      obtain rfl : r = none := hr.out.symm.trans (by unfold elemO; rw [h1, h2]; rfl)
      have H2 := Lib.hid h2
      clear h1 hr h2
      go_enter Tryz.func106, Tryz.ntmps106
      go_wp2_with (first | (go_at_call 121; refine (cut_yes _ _ H1).mono ?_; rintro e w' ⟨rfl, rfl⟩) | (go_at_call 122; refine (isWord_to _ false _ hK H2).mono ?_; rintro e w' ⟨rfl, rfl⟩))
      go_ret2
      exact ⟨rfl, rfl⟩
    | true =>
      obtain rfl : r = some (tailOf t) := hr.out.symm.trans (by unfold elemO; rw [h1, h2]; rfl)
      have H2 := Lib.hid h2
      clear h1 hr h2
      go_enter Tryz.func106, Tryz.ntmps106
      go_wp2_with (first | (go_at_call 121; refine (cut_yes _ _ H1).mono ?_; rintro e w' ⟨rfl, rfl⟩) | (go_at_call 122; refine (isWord_to _ true _ hK H2).mono ?_; rintro e w' ⟨rfl, rfl⟩))
      go_ret2
      exact ⟨rfl, rfl⟩


end Go.Proofs.YtfbejfoalnhihaaGreatDoor

/-
  CONTRACT: Scan at every text: its tokens, in new memory, or the place and the error of the first that is wrong; in a world in which the listed variables lie as the program's text lays them; of what was there nothing has turned.
-/
namespace Go.Proofs.YtfbejfoalnhihaaGreatDoor
open Go.RowKit

def cellsT (ts : List Tok) : List Value := ts.flatMap fun t => [.int .i64 t.kind, .string ⟨t.text.toArray⟩, .int .i64 t.place]
theorem cellsT_snoc (ts : List Tok) (t : Tok) : cellsT (ts ++ [t]) = cellsT ts ++ [.int .i64 t.kind, .string ⟨t.text.toArray⟩, .int .i64 t.place] := by simp [cellsT]
def ScanQ (r : R) (w : World) (e : Ending) (w' : World) : Prop := Below w.heap.size w w' ∧ (match r with
  | .ok ts => ∃ v, e = .returned (.tuple #[v, .int .i64 0, .int .i64 0]) ∧ w'.ownsRow w.heap.size 46 3 v ts.length (cellsT ts)
  | .bad p er => e = .returned (.tuple #[.slice none 0 0, .int .i64 p, .int .i64 er]))
/-- What Scan answers. -/
def scanR (l : List UInt8) : R := if 4096 < l.length then .bad 4096 4 else sc l 0
def StopAt (l : List UInt8) (p : Nat) : Prop := ∀ h : p < l.length, blkB l[p] = false ∧ comAt l p = false
def ScRel (s : ByteArray) (w : World) (r : R) (v i : Value) (wr : World) : Prop :=
  ∃ (ts : List Tok) (p : Nat), p ≤ s.size ∧ ts.length ≤ p ∧ i = .int .i64 p ∧ Hid (r = (sc s.data.toList p).pre ts) ∧ Hid (StopAt s.data.toList p) ∧ Hid (wr.ownsRow w.heap.size 46 3 v ts.length (cellsT ts)) ∧ Below w.heap.size w wr
theorem own_below {w w' : World} {base : Nat} {e : TypeId} {size : Nat} {v : Value} {n : Nat} {xs : List Value} (h : w.ownsRow base e size v n xs) (hb : Below w.heap.size w w') : w'.ownsRow base e size v n xs :=
  h.kept (row := none) ⟨hb.os, hb.tape, hb.output, hb.size, fun i hi _ => hb.block i hi⟩ (by cases v.ownBlock <;> simp)
theorem own_lt {w : World} {base : Nat} {e : TypeId} {size : Nat} {v : Value} {n : Nat} {xs : List Value} (h : w.ownsRow base e size v n xs) (g : Nat) (hg : w.heap.size ≤ g) : some g ≠ v.ownBlock :=
  fun e => by have := h.lt g e.symm; omega
theorem tok_info : (Tryz.prog.info? 46).map (fun i => (i.zero, i.size, i.bytes)) = some (some (.agg #[.int .i64 0, .string ⟨#[]⟩, .int .i64 0]), 3, 32) := by kernel_rfl

theorem news3 (w : World) (A : Array Value) (t e : TypeId) (a b c : Value) : ∀ j u, [a, b, c][j]? = some u → ((w.alloc (.cells A t)).alloc (.cells #[a, b, c] e)).cell? ((⟨w.heap.size + 1, 0, none⟩ : Addr).add j) = some u := by
  have h := heap_alloc_new (w.alloc (.cells A t)) (.cells #[a, b, c] e)
  rw [show (w.alloc (.cells A t)).heap.size = w.heap.size + 1 by simp] at h
  exact World.news_of_block h

theorem cell_first (w : World) (A B : Array Value) (t e : TypeId) (j : Nat) : ((w.alloc (.cells A t)).alloc (.cells B e)).cell? ⟨w.heap.size, j, none⟩ = A[j]? := by
  have h := heap_alloc_new w (.cells A t)
  have h2 := (Below.heap_alloc (w.alloc (.cells A t)) (.cells B e) w.heap.size (by simp)).trans h
  exact cell_of_row _ w.heap.size j A t (0, 0) h2
theorem skip_to (s : ByteArray) (i : Int) (p q : Nat) (w : World) (hs : s.size ≤ 281474976710656) (hp : p ≤ s.size) (hi : Hid (i = p)) (hq : Hid (skipAt s.data.toList p = q)) :
    Calls Tryz.prog 39 #[.string s, .int .i64 i] w fun e w' => e = .returned (.int .i64 q) ∧ w = w' := by
  rw [hi.out]; exact skip_any s p q w hs hp hq

set_option maxRecDepth 100000 in
set_option maxHeartbeats 400000 in
theorem scan_any (s : ByteArray) (r : R) (w : World) (G : Good w) (hs : s.size ≤ 281474976710656) (hr : Hid (scanR s.data.toList = r)) : Calls Tryz.prog 19 #[.string s] w (ScanQ r w) := by
  by_cases hl : 4096 < s.size
  · have hi : (4096 : Int) < (s.size : Int) := by omega
    have HQ : Hid (R.bad 4096 4 = r) := by
      show _ = _
      rw [← hr.out, scanR, len_size, if_pos hl]
    have := HQ.out
    subst this
    go_enter Tryz.func19, Tryz.ntmps19
    go_wp2_with fail
    refine bodyPost_ret (v := .tuple #[.slice none 0 0, .int .i64 4096, .int .i64 4]) (by simp [results, Tryz.results19, go_sem]) rfl ⟨Below.refl _ _, rfl⟩
  · have hi : ¬ (4096 : Int) < (s.size : Int) := by omega
    have hsk := skip_all s.data.toList s.data.toList.length 0 (by omega) (Nat.zero_le _)
    obtain ⟨p0, hp0⟩ : ∃ p, skipAt s.data.toList 0 = p := ⟨_, rfl⟩
    rw [hp0] at hsk
    obtain ⟨k1, k2, k3, k4⟩ := hsk
    have HR : Hid (r = (sc s.data.toList p0).pre []) := by
      show _ = _
      rw [← hr.out, scanR, len_size, if_neg hl, k1, R.pre_nil]
    have HP0 := Lib.hid hp0
    have H4 : Hid (StopAt s.data.toList p0) := k4
    rw [len_size] at k3
    have hsk0 : Calls Tryz.prog 39 #[.string s, .int .i64 0] w fun e w' => e = .returned (.int .i64 p0) ∧ w = w' := skip_any s 0 p0 w hs (Nat.zero_le _) HP0
    have HSK := Lib.hid hsk0
    obtain ⟨i0, hi0, hz0, hz1, hz2⟩ := info_parts tok_info
    have HI0 := Lib.hid hi0
    have HZ0 := Lib.hid hz0
    have HZ1 := Lib.hid hz1
    have HZ2 := Lib.hid hz2
    clear hp0 k1 k4 k2 hr hsk0 hi0 hz0 hz1 hz2
    go_enter Tryz.func19, Tryz.ntmps19
    go_wp2_with (go_at_call 39; refine HSK.out.mono ?_; rintro e w' ⟨rfl, rfl⟩)
    go_loopw [5, 6] (fun v i wr => ScRel s w r v i wr) (fun _ i _ => s.size - (intOf i).toNat)
    case atStart => exact ⟨[], p0, k3, Nat.zero_le _, rfl, HR, H4, World.ownsRow_nil _ _ _ _, Below.refl _ _⟩
    case round =>
      obtain ⟨ts, p, hp, hts, rfl, HRR, HST, HOWN, hb⟩ := hrel
      by_cases hlt : p < s.size
      · obtain ⟨a, x, b, c, hf⟩ := tkOf_form s p (tokAt s.data.toList p)
        have HF := Lib.hid hf
        have Gr := G.below hb
        obtain ⟨hst1, hst2⟩ := HST.out (by rw [len_size]; exact hlt)
        by_cases he : (tokAt s.data.toList p).err = 0
        · have hsc := sc_tok (l := s.data.toList) (by rw [len_size]; exact hlt) hst1 hst2 he
          have hln := tokAt_len (l := s.data.toList) (by rw [len_size]; exact hlt) he
          unfold tkOf at hf
          rw [if_pos he] at hf
          obtain ⟨m, hm⟩ : ∃ m, (tokAt s.data.toList p).len = m := ⟨_, rfl⟩
          obtain ⟨kd, hkd⟩ : ∃ m, (tokAt s.data.toList p).kind = m := ⟨_, rfl⟩
          rw [hm] at hln hsc hf
          rw [hkd] at hsc hf
          simp only [tkV, Value.tuple.injEq, Array.mk.injEq, List.cons.injEq, Value.agg.injEq, Value.int.injEq, Value.string.injEq, and_true, true_and] at hf
          obtain ⟨⟨rfl, hx, rfl⟩, rfl⟩ := hf
          rw [len_size] at hln
          have hxl : x.size = m := by rw [← hx, ← len_size, cut_extract, List.length_take, List.length_drop, len_size]; omega
          have hxt : x = ⟨((s.data.toList.drop p).take m).toArray⟩ := Go.WideShapes.bytes_inj (by rw [← hx, cut_extract, show p + m - p = m by omega])
          have HSC := Lib.hid hsc
          have HXT := Lib.hid hxt
          have HXL := Lib.hid hxl
          clear hsc hx hxt hm hkd he hst1 hst2 hxl
          go_wp2_with fail
          refine (tokenAt_any s p kd x p 0 _ hs hlt Gr HF).mono ?_
          rintro e w1 ⟨rfl, hb1⟩
          clear HF Gr
          have HO1 := Lib.hid (own_below HOWN.out hb1)
          have hb2 := hb.trans (hb1.mono hb.size)
          go_wp2_with (at_builtin; refine Hid.out ?_)
          refine Lib.hid ?_
          refine wpList_append_lies _ rfl (.tmp 28) (.tmp 30) _ rfl w.heap.size 46 i0 _ 3 32 Tryz.underlying41 HI0.out HZ0.out HZ1.out HZ2.out rfl (by omega) u5 ts.length (cellsT ts) rfl (by exact (HO1.out.alloc _).alloc _) ⟨w1.heap.size + 1, 0, none⟩ 1 1 [.int .i64 kd, .string x, .int .i64 p] rfl rfl (by exact news3 w1 _ 46 46 _ _ _) (by simp [Value.oneCell']) (by omega) (by simp only [maxLen]; omega) (by omega) (by simp; have := hb2.size; omega) (w1.heap.size + 2) (by simp) ?_
          intro g cap w2 hown2 hg2 hat2 hlt2
          have hne := own_lt HOWN.out w1.heap.size hb1.size
          have hcx : w2.cell? ⟨w1.heap.size, 1, none⟩ = some (.string x) := by
            rw [hg2.cell_far ⟨w1.heap.size, 1, none⟩ (by simp; omega) hne, cell_first]; rfl
          have hb3 : Below w.heap.size w w2 := ((hb2.alloc hb2.size _).alloc (by simp; have := hb2.size; omega) _).grown hg2 (by simp; have := hb2.size; omega) (fun k hk => (HOWN.out.lt k hk).1)
          rw [HXT.out] at hown2
          have hown3 : w2.ownsRow w.heap.size 46 3 (.slice (some ⟨g, 0, none⟩) (ts.length + 1) cap) (ts ++ [Tok.mk kd ((s.data.toList.drop p).take m) p]).length (cellsT (ts ++ [Tok.mk kd ((s.data.toList.drop p).take m) p])) := by
            rw [cellsT_snoc, List.length_append]; exact hown2
          have HO3 := Lib.hid hown3
          clear hown2 hown3 hg2 hat2 hne
          obtain ⟨q, hq⟩ : ∃ q, skipAt s.data.toList (p + m) = q := ⟨_, rfl⟩
          have hsk := skip_all s.data.toList s.data.toList.length (p + m) (by omega) (by rw [len_size]; omega)
          rw [hq] at hsk
          obtain ⟨k1, k2, k3', k4⟩ := hsk
          rw [len_size] at k3'
          have HQ := Lib.hid hq
          have HST2 : Hid (StopAt s.data.toList q) := k4
          have HR2 : Hid (r = (sc s.data.toList q).pre (ts ++ [Tok.mk kd ((s.data.toList.drop p).take m) p])) := by
            show _ = _
            rw [HRR.out, HSC.out, R.pre_pre, k1]
          have HPM : Hid ((p : Int) + (x.size : Int) = ((p + m : Nat) : Int)) := by
            show _ = _
            have := HXL.out
            omega
          have hxb : x.size ≤ 4096 := by have := HXL.out; omega
          clear hq k1 k4
          go_wp2_with (go_at_call 39; refine (skip_to s _ (p + m) q _ hs hln.2 HPM HQ).mono ?_; rintro e w' ⟨rfl, rfl⟩)
          go_roundw
          case rel => exact ⟨_, q, k3', by rw [List.length_append]; simp; omega, rfl, HR2, HST2, HO3, hb3⟩
          case measure => simp [intOf]; omega
        · have hsc := sc_bad (l := s.data.toList) (by rw [len_size]; exact hlt) hst1 hst2 he
          unfold tkOf at hf
          rw [if_neg he] at hf
          obtain ⟨er, her⟩ : ∃ er, (tokAt s.data.toList p).err = er := ⟨_, rfl⟩
          rw [her] at hsc hf he
          simp only [tkV, Value.tuple.injEq, Array.mk.injEq, List.cons.injEq, Value.agg.injEq, Value.int.injEq, Value.string.injEq, and_true, true_and] at hf
          obtain ⟨⟨rfl, rfl, rfl⟩, rfl⟩ := hf
          have HR2 : Hid (R.bad p er = r) := by
            show _ = _
            rw [HRR.out, hsc]; rfl
          have := HR2.out
          subst this
          have hne : ((er : Int) != 0) = true := by simpa using he
          clear hsc her he hst1 hst2 HRR
          go_wp2_with fail
          refine (tokenAt_any s p 0 ⟨#[]⟩ 0 er _ hs hlt Gr HF).mono ?_
          rintro e w1 ⟨rfl, hb1⟩
          clear HF Gr
          have hb2 := hb.trans (hb1.mono hb.size)
          go_wp2_with fail
          refine bodyPost_ret (v := .tuple #[.slice none 0 0, .int .i64 p, .int .i64 er]) (by simp [results, Tryz.results19, go_sem]) rfl ⟨hb2.alloc hb2.size _, rfl⟩
      · have HR2 : Hid (R.ok ts = r) := by
          show _ = _
          rw [HRR.out, sc_end (by rw [len_size]; omega)]; simp [R.pre]
        have := HR2.out
        subst this
        clear HRR
        go_wp2_with fail
        refine bodyPost_ret (v := .tuple #[u5, .int .i64 0, .int .i64 0]) (by simp [results, Tryz.results19, go_sem]) rfl ⟨hb, u5, rfl, HOWN.out⟩

end Go.Proofs.YtfbejfoalnhihaaGreatDoor

/-
  WORDS AND CONTRACT: the shower: the texts that it has gathered; what keeps it; add. Nobody but the shower's own blocks has turned.
-/
namespace Go.Proofs.YtfbejfoalnhihaaGreatDoor
open Go.RowKit

abbrev Tx := List UInt8
def strL (xs : List Tx) : List Value := xs.map fun l => .string ⟨l.toArray⟩
abbrev PowIn (w : World) : Prop := Lib.TabIs Tryz.prog w "internal/strconv.uint64pow10" .u64 Lib.pow10Tab
theorem gPow6 : Tryz.prog.globalNamed "internal/strconv.uint64pow10" = some 6 := by kernel_rfl
theorem pow_below {w w' : World} (h : PowIn w) (hb : Below 8 w w') : PowIn w' := var?_below hb gPow6 (by omega) h

structure SH (w : World) (sb : Nat) (v : Value) (xs : List Tx) : Prop where
  lt : sb < w.heap.size
  c0 : w.cell? ⟨sb, 0, none⟩ = some v
  fr : w.frozen? ⟨sb, 0, none⟩ = false
  own : w.ownsRow (sb + 1) 9 1 v xs.length (strL xs)
  good : Good w
  pow : PowIn w
  sb8 : 8 ≤ sb
structure SG (sb : Nat) (v : Value) (w w' : World) : Prop where
  os : w'.os = w.os
  tape : w'.tape = w.tape
  output : w'.output = w.output
  size : w.heap.size ≤ w'.heap.size
  blk : ∀ k, k < w.heap.size → k ≠ sb → v.ownBlock ≠ some k → w'.heap[k]? = w.heap[k]?
/-- From w on the shower has come so far. -/
structure SST (sb : Nat) (v : Value) (w : World) (v' : Value) (w' : World) (xs : List Tx) : Prop where
  sh : SH w' sb v' xs
  sg : SG sb v w w'
  nv : ∀ g, v'.ownBlock = some g → v.ownBlock = some g ∨ w.heap.size ≤ g
def SQ (sb : Nat) (v : Value) (w : World) (xs : List Tx) (e : Ending) (w' : World) : Prop := ∃ v', e = .returned (.tuple #[]) ∧ SST sb v w v' w' xs

theorem SST.refl {sb : Nat} {v : Value} {w : World} {xs : List Tx} (h : SH w sb v xs) : SST sb v w v w xs := ⟨h, ⟨rfl, rfl, rfl, Nat.le_refl _, fun _ _ _ _ => rfl⟩, fun _ h => .inl h⟩
theorem SG.below {sb : Nat} {v : Value} {w w' : World} (hb : Below w.heap.size w w') : SG sb v w w' := ⟨hb.os, hb.tape, hb.output, hb.size, fun k hk _ _ => hb.block k hk⟩
theorem SH.below {w w' : World} {sb : Nat} {v : Value} {xs : List Tx} (h : SH w sb v xs) (hb : Below w.heap.size w w') : SH w' sb v xs :=
  ⟨Nat.lt_of_lt_of_le h.lt hb.size, (hb.cell (p := ⟨sb, 0, none⟩) h.lt).trans h.c0, (hb.frozen (p := ⟨sb, 0, none⟩) h.lt).trans h.fr, own_below h.own hb, h.good.below hb, pow_below h.pow (hb.mono h.good.size), h.sb8⟩
theorem SST.trans {sb : Nat} {v v1 v2 : Value} {w w1 w2 : World} {xs ys : List Tx} (h : SST sb v w v1 w1 xs) (k : SST sb v1 w1 v2 w2 ys) : SST sb v w v2 w2 ys := by
  refine ⟨k.sh, ⟨k.sg.os.trans h.sg.os, k.sg.tape.trans h.sg.tape, k.sg.output.trans h.sg.output, Nat.le_trans h.sg.size k.sg.size, fun b hb h1 h2 => ?_⟩, fun g hg => ?_⟩
  · refine (k.sg.blk b (Nat.lt_of_lt_of_le hb h.sg.size) h1 (fun e => ?_)).trans (h.sg.blk b hb h1 h2)
    rcases h.nv b e with h3 | h3
    · exact h2 h3
    · omega
  · rcases k.nv g hg with h3 | h3
    · exact h.nv g h3
    · exact .inr (Nat.le_trans h.sg.size h3)
theorem SST.below {sb : Nat} {v v1 : Value} {w w1 w2 : World} {xs : List Tx} (h : SST sb v w v1 w1 xs) (hb : Below w1.heap.size w1 w2) : SST sb v w v1 w2 xs :=
  h.trans ⟨h.sh.below hb, SG.below hb, fun _ h => .inl h⟩
/-- Blocks below the shower's stay. -/
theorem SG.low {sb : Nat} {v : Value} {w w' : World} {xs : List Tx} (h : SG sb v w w') (hs : SH w sb v xs) : Below sb w w' :=
  ⟨h.os, h.tape, h.output, h.size, fun k hk => h.blk k (Nat.lt_trans hk hs.lt) (by omega) (fun e => by have := (hs.own.lt k e).1; omega)⟩
theorem NodeAt.low {pl : Nat → Nat} {w w' : World} {sb b : Nat} {t : Tree} (h : NodeAt (fun x => x < sb) pl w b t) (hb : Below sb w w') : NodeAt (fun x => x < sb) pl w' b t :=
  h.kept ⟨hb.size, fun b hb1 _ => hb.block b hb1⟩
/-- A variable's block that is none of the shower's. -/
theorem PtrAt.sg {w w' : World} {sb b : Nat} {v : Value} {x : Option Addr} (h : PtrAt w b x) (hg : SG sb v w w') (h1 : b ≠ sb) (h2 : v.ownBlock ≠ some b) : PtrAt w' b x :=
  ⟨Nat.lt_of_lt_of_le h.lt hg.size, (World.cell?_of_block (w := w) (hg.blk b h.lt h1 h2)).trans h.c0, (World.frozen?_of_block (w := w) (hg.blk b h.lt h1 h2)).trans h.f0⟩

theorem str_info : (Tryz.prog.info? 9).map (fun i => (i.zero, i.size, i.bytes)) = some (some (.string ⟨#[]⟩), 1, 16) := by kernel_rfl

set_option maxRecDepth 100000 in
set_option maxHeartbeats 400000 in
theorem add_any (w : World) (sb : Nat) (v : Value) (xs : List Tx) (ad m : Nat) (ys : List Tx) (h : SH w sb v xs) (hm : Hid (ys.length = m)) (hys : Hid (∀ j y, ys[j]? = some y → w.cell? ⟨ad, j, none⟩ = some (.string ⟨y.toArray⟩))) (h0 : 0 < m) (hl : xs.length + m ≤ 1000000) :
    Calls Tryz.prog 57 #[.pointer (some ⟨sb, 0, none⟩), .slice (some ⟨ad, 0, none⟩) m m] w (SQ sb v w (xs ++ ys)) := by
  obtain ⟨i0, hi0, hz0, hz1, hz2⟩ := info_parts str_info
  have HI0 := Lib.hid hi0
  have HZ0 := Lib.hid hz0
  have HZ1 := Lib.hid hz1
  have HZ2 := Lib.hid hz2
  have H := Lib.hid h
  have c0 := h.c0
  have fr := h.fr
  have hlt := h.lt
  have HX : Hid (xs.length = (strL xs).length) := by show _ = _; simp [strL]
  clear h hi0 hz0 hz1 hz2
  go_enter Tryz.func57, Tryz.ntmps57
  go_wp2_with (at_builtin; refine Hid.out ?_)
  refine Lib.hid ?_
  refine wpList_append_lies _ rfl (.tmp 8) (.tmp 9) _ rfl (sb + 1) 9 i0 _ 1 16 Tryz.underlying71 HI0.out HZ0.out HZ1.out HZ2.out rfl (by omega) v xs.length (strL xs) rfl H.out.own ⟨ad, 0, none⟩ m m (strL ys) rfl (by simp [strL, hm.out]) ?_ ?_ h0 (by simp only [maxLen]; omega) (by omega) (by omega) w.heap.size rfl ?_
  · intro j u hu
    unfold strL at hu
    rw [List.getElem?_map] at hu
    cases hj : ys[j]? with
    | none => rw [hj] at hu; cases hu
    | some y =>
      rw [hj] at hu
      obtain rfl := Option.some.inj hu
      have := hys.out j y hj
      have e : (⟨ad, 0, none⟩ : Addr).add j = ⟨ad, j, none⟩ := by cases j <;> simp [Addr.add]
      rw [e]
      exact this
  · intro u hu
    unfold strL at hu
    obtain ⟨y, -, rfl⟩ := List.mem_map.1 hu
    rfl
  intro g cap w2 hown hg hat hlt2
  have hne : v.ownBlock ≠ some sb := fun e => by have := (H.out.own.lt sb e).1; omega
  have c2 := (hg.cell_far ⟨sb, 0, none⟩ hlt (fun e => hne e.symm)).trans c0
  have f2 := (hg.frozen_far ⟨sb, 0, none⟩ hlt (fun e => hne e.symm)).trans fr
  have HO := Lib.hid hown
  have HG := Lib.hid hg
  have HAT := Lib.hid hat
  clear hown hg hat hys
  go_wp2_with fail
  refine bodyPost_end (v := .tuple #[]) (by simp [results, Tryz.results57, go_sem]) rfl ?_
  have hgs := (HO.out.lt g rfl).1
  have hset := kb_set w2 ⟨sb, 0, none⟩ (.slice (some ⟨g, 0, none⟩) (xs.length + m) cap)
  have hlow : Below 8 w (w2.setCell ⟨sb, 0, none⟩ (.slice (some ⟨g, 0, none⟩) (xs.length + m) cap)) := by
    have h8 := H.out.sb8
    have a := low_grown HG.out (fun b e => by have := (H.out.own.lt b e).1; omega) H.out.good.size
    have b := low_grown hset (fun b e => by have h9 : sb = b := Option.some.inj e; omega) (Nat.le_trans H.out.good.size HG.out.size)
    exact a.trans b
  refine ⟨.slice (some ⟨g, 0, none⟩) (xs.length + m) cap, rfl, ⟨Nat.lt_of_lt_of_le hlt (Nat.le_trans HG.out.size hset.size), World.cell?_setCell_same _ _ _ c2, (World.frozen?_setCell _ _ _ _).trans f2, ?_, H.out.good.low hlow, pow_below H.out.pow hlow, H.out.sb8⟩, ⟨HG.out.os, HG.out.tape, HG.out.output, Nat.le_trans HG.out.size hset.size, ?_⟩, ?_⟩
  · have := HO.out.kept hset (.inr (fun e => by have h9 : g = sb := Option.some.inj e; omega))
    unfold strL at this ⊢
    rw [List.map_append, List.length_append]
    rw [hm.out]
    exact this
  · intro k hk h1 h2
    exact (hset.block k (Nat.lt_of_lt_of_le hk HG.out.size) (fun e => h1 (Option.some.inj e))).trans (HG.out.block k hk (fun e => h2 e.symm))
  · intro g' hg'
    have h9 : g = g' := Option.some.inj hg'
    subst h9
    rcases HAT.out with e | e
    · exact .inl e
    · exact .inr (by omega)

end Go.Proofs.YtfbejfoalnhihaaGreatDoor

/-
  CONTRACTS: named, fieldName, expr, bracketed, creation, input of the reader. Nobody but the reader's own block has turned.
-/
namespace Go.Proofs.YtfbejfoalnhihaaGreatDoor
open Go.RowKit

set_option maxRecDepth 100000 in
set_option maxHeartbeats 400000 in
theorem named_any (E : Env) (w : World) (i d : Nat) (c : Callee) (op : Nat) (hop : op < 1000) (r : Res Tree) (h : RD E w i d) (hr : Hid (runW E.T c (named op) i = some r)) :
    Calls Tryz.prog 74 #[.pointer (some ⟨E.rb, 0, none⟩), .int .i64 op] w (Q E w d (VN E w.heap.size) r) := by
  have H := Lib.hid h
  have hr1 := h.lt
  have hf0 := tok_kind
  have hf1 := tok_text
  have hf2 := tok_at
  have S0 := Lib.hid (ST.below (ST.refl h) (b1 w (.cells #[.pointer none] 25)))
  have P0 := Lib.hid (PtrAt.new w none)
  have l0 := P0.out.lt
  clear h
  go_enter Tryz.func74, Tryz.ntmps74
  go_wp2_with fail
  generalize w.alloc (.cells #[.pointer none] 25) = wa at *
  rcases bind_cases hr.out with ⟨j1, er, hx, hq⟩ | ⟨a1, j1, hx, hq⟩
  · exact (typed_any E _ i d op c _ S0.out.1 hop hx).mono fun e w' h => by obtain ⟨rfl, hg⟩ := h; exact ⟨rfl, by rw [hq]; exact ⟨rfl, S0.out.2.trans hg⟩⟩
  refine (typed_any E _ i d op c _ S0.out.1 hop hx).mono ?_
  rintro e w1 ⟨v1, rfl, ⟨nb1, hv, hn⟩, hst⟩
  obtain rfl := hv
  unfold nodeV
  have P0' := Lib.hid (P0.out.kept hst.2 (by omega))
  clear P0
  have P0 := P0'
  clear P0'
  have N1 := Lib.hid (hn.from (B := w.heap.size) (by omega))
  clear hn
  have S1 := Lib.hid (S0.out.trans hst)
  have z1 := hst.2.size
  clear hst
  have HR1 := Lib.hid hq
  clear hx hq
  have V := Lib.hid (PtrAt.new w1 (some ⟨nb1, 0, none⟩))
  have P0' := Lib.hid (P0.out.below (b1 w1 (.cells #[.pointer (some ⟨nb1, 0, none⟩)] 25)))
  clear P0
  have P0 := P0'
  clear P0'
  have N1' := Lib.hid (N1.out.bl (b1 w1 (.cells #[.pointer (some ⟨nb1, 0, none⟩)] 25)))
  clear N1
  have N1 := N1'
  clear N1'
  have S2 := Lib.hid (S1.out.below (b1 w1 (.cells #[.pointer (some ⟨nb1, 0, none⟩)] 25)))
  have z2 := (b1 w1 (.cells #[.pointer (some ⟨nb1, 0, none⟩)] 25)).size
  have y2 : w1.heap.size < (w1.alloc (.cells #[.pointer (some ⟨nb1, 0, none⟩)] 25)).heap.size := by simp
  go_wp2_with fail
  generalize w1.alloc (.cells #[.pointer (some ⟨nb1, 0, none⟩)] 25) = w2 at *
  rcases bind_cases HR1.out with ⟨j3, er, hx, hq⟩ | ⟨a3, j3, hx, hq⟩
  · exact (need_any E _ j1 d ⟨#[59]⟩ c _ S2.out.1 (Lib.hid (by decide)) hx).mono fun e w' h => by obtain ⟨rfl, hg⟩ := h; exact ⟨rfl, by rw [hq]; exact ⟨rfl, S2.out.2.trans hg⟩⟩
  refine (need_any E _ j1 d ⟨#[59]⟩ c _ S2.out.1 (Lib.hid (by decide)) hx).mono ?_
  rintro e w3 ⟨v3, rfl, -, hst⟩
  have P0' := Lib.hid (P0.out.kept hst.2 (by omega))
  clear P0
  have P0 := P0'
  clear P0'
  have N1' := Lib.hid (N1.out.st hst.2 (by omega))
  clear N1
  have N1 := N1'
  clear N1'
  have V' := Lib.hid (V.out.kept hst.2 (by omega))
  clear V
  have V := V'
  clear V'
  have S3 := Lib.hid (S2.out.trans hst)
  have z3 := hst.2.size
  clear hst
  have HR3 := Lib.hid hq
  clear hx hq
  have HQ : Hid (r = .ok a1 j3) := (Option.some.inj HR3.out).symm
  have V0 := V.out.c0
  have q0 := P0.out.c0
  have f0 := P0.out.f0
  go_wp2_with fail
  refine bodyPost_ret (v := nodeV nb1) (by unfold nodeV; simp [results, Tryz.results74, go_sem, q0]) rfl ?_
  rw [HQ.out]
  exact pass_done H.out S3.out N1.out (by omega) _

set_option maxRecDepth 100000 in
set_option maxHeartbeats 400000 in
theorem fieldName_any (E : Env) (w : World) (i d : Nat) (c : Callee) (r : Res (Nat × List UInt8)) (h : RD E w i d) (hr : Hid (runW E.T c (fieldName) i = some r)) :
    Calls Tryz.prog 159 #[.pointer (some ⟨E.rb, 0, none⟩)] w (Q E w d (VW E) r) := by
  have H := Lib.hid h
  have hr1 := h.lt
  have hf0 := tok_kind
  have hf1 := tok_text
  have hf2 := tok_at
  have S0 := Lib.hid (ST.below (ST.refl h) (b1 w (.cells #[.int .i64 0, .string ⟨#[]⟩, .int .i64 0] 46)))
  have P0 := Lib.hid (TokAt.new w 0 ⟨#[]⟩ 0)
  have l0 := P0.out.lt
  clear h
  go_enter Tryz.func159, Tryz.ntmps159
  go_wp2_with fail
  generalize w.alloc (.cells #[.int .i64 0, .string ⟨#[]⟩, .int .i64 0] 46) = wa at *
  rcases bind_cases hr.out with ⟨j1, er, hx, hq⟩ | ⟨a1, j1, hx, hq⟩
  · exact (need_any E _ i d ⟨#[46]⟩ c _ S0.out.1 (Lib.hid (by decide)) hx).mono fun e w' h => by obtain ⟨rfl, hg⟩ := h; exact ⟨rfl, by rw [hq]; exact ⟨rfl, S0.out.2.trans hg⟩⟩
  refine (need_any E _ i d ⟨#[46]⟩ c _ S0.out.1 (Lib.hid (by decide)) hx).mono ?_
  rintro e w1 ⟨v1, rfl, -, hst⟩
  have P0' := Lib.hid (P0.out.kept hst.2 (by omega))
  clear P0
  have P0 := P0'
  clear P0'
  have S1 := Lib.hid (S0.out.trans hst)
  have z1 := hst.2.size
  clear hst
  have HR1 := Lib.hid hq
  clear hx hq
  go_wp2_with fail
  rcases last_cases HR1.out with ⟨j2, er, hx, hq⟩ | ⟨a2, j2, hx, hq⟩
  · exact (word_any E _ j1 d c _ S1.out.1 hx).mono fun e w' h => by obtain ⟨rfl, hg⟩ := h; exact ⟨rfl, by rw [hq]; exact ⟨rfl, S1.out.2.trans hg⟩⟩
  refine (word_any E _ j1 d c _ S1.out.1 hx).mono ?_
  rintro e w2 ⟨v2, rfl, ⟨hv, htx⟩, hst⟩
  obtain rfl := hv
  unfold tokV
  have P0' := Lib.hid (P0.out.kept hst.2 (by omega))
  clear P0
  have P0 := P0'
  clear P0'
  have X2 := Lib.hid htx
  clear htx
  have S2 := Lib.hid (S1.out.trans hst)
  have z2 := hst.2.size
  clear hst
  have HQ := Lib.hid hq
  clear hx hq
  have c0 := P0.out.c0
  have c1 := P0.out.c1
  have c2 := P0.out.c2
  have f0 := P0.out.f0
  have f1 := P0.out.f1
  have f2 := P0.out.f2
  go_wp2_with fail
  refine bodyPost_ret (v := tokV (E.T a2.1) (E.pl a2.1)) ?_ rfl ?_
  · rw [show (tokV (E.T a2.1) (E.pl a2.1)) = .agg #[.int .i64 (E.T a2.1).kind, .string ⟨(E.T a2.1).text.toArray⟩, .int .i64 (E.pl a2.1)] from rfl]
    simp [results, Tryz.results159, go_sem, c0, c1, c2]
  · rw [HQ.out]
    exact ⟨_, rfl, ⟨rfl, X2.out⟩, ST.set H.out (ST.set H.out (ST.set H.out S2.out _ _ (Nat.le_refl _) _) _ _ (Nat.le_refl _) _) _ _ (Nat.le_refl _) _⟩

set_option maxRecDepth 100000 in
set_option maxHeartbeats 400000 in
theorem expr_any (E : Env) (w : World) (i d : Nat) (n : Nat) (ih : IH E n) (r : Res Tree) (h : RD E w i d) (hr : Hid (runW E.T (P E.T n) (expr d) i = some r)) :
    Calls Tryz.prog 143 #[.pointer (some ⟨E.rb, 0, none⟩)] w (Q E w d (VN E w.heap.size) r) := by
  have H := Lib.hid h
  have hr1 := h.lt
  have hf0 := tok_kind
  have hf1 := tok_text
  have hf2 := tok_at
  have S0 := Lib.hid (ST.below (ST.refl h) (b1 w (.cells #[.pointer none] 25)))
  have P0 := Lib.hid (PtrAt.new w none)
  have l0 := P0.out.lt
  clear h
  go_enter Tryz.func143, Tryz.ntmps143
  go_wp2_with fail
  generalize w.alloc (.cells #[.pointer none] 25) = wa at *
  rcases call_cases hr.out with ⟨j1, er, hx, hq⟩ | ⟨a1, j1, hx, hq⟩
  · exact (ih.binary _ i d 1 _ (by omega) (by omega) S0.out.1 hx).mono fun e w' h => by obtain ⟨rfl, hg⟩ := h; exact ⟨rfl, by rw [hq]; exact ⟨rfl, S0.out.2.trans hg⟩⟩
  refine (ih.binary _ i d 1 _ (by omega) (by omega) S0.out.1 hx).mono ?_
  rintro e w1 ⟨v1, rfl, ⟨nb1, hv, hn⟩, hst⟩
  obtain rfl := hv
  unfold nodeV
  have P0' := Lib.hid (P0.out.kept hst.2 (by omega))
  clear P0
  have P0 := P0'
  clear P0'
  have N1 := Lib.hid (hn.from (B := w.heap.size) (by omega))
  clear hn
  have S1 := Lib.hid (S0.out.trans hst)
  have z1 := hst.2.size
  clear hst
  have HQ := Lib.hid (run_ret hq)
  clear hx hq
  have q0 := P0.out.c0
  have f0 := P0.out.f0
  go_wp2_with fail
  refine bodyPost_ret (v := nodeV nb1) (by unfold nodeV; simp [results, Tryz.results143, go_sem, q0]) rfl ?_
  rw [HQ.out]
  exact pass_done H.out S1.out N1.out (by omega) _

set_option maxRecDepth 100000 in
set_option maxHeartbeats 400000 in
theorem bracketed_any (E : Env) (w : World) (i d : Nat) (n : Nat) (ih : IH E n) (r : Res Tree) (h : RD E w i d) (hr : Hid (runW E.T (P E.T n) (brack d) i = some r)) :
    Calls Tryz.prog 145 #[.pointer (some ⟨E.rb, 0, none⟩)] w (Q E w d (VN E w.heap.size) r) := by
  have H := Lib.hid h
  have hr1 := h.lt
  have hf0 := tok_kind
  have hf1 := tok_text
  have hf2 := tok_at
  have S0 := Lib.hid (ST.below (ST.refl h) (b1 w (.cells #[.pointer none] 25)))
  have P0 := Lib.hid (PtrAt.new w none)
  have l0 := P0.out.lt
  clear h
  go_enter Tryz.func145, Tryz.ntmps145
  go_wp2_with fail
  generalize w.alloc (.cells #[.pointer none] 25) = wa at *
  rcases bind_cases hr.out with ⟨j1, er, hx, hq⟩ | ⟨a1, j1, hx, hq⟩
  · exact (enter_any E _ i d ⟨#[40]⟩ (P E.T n) _ S0.out.1 (Lib.hid (by decide)) hx).mono fun e w' h => by obtain ⟨rfl, hg⟩ := h; exact ⟨rfl, by rw [hq]; exact ⟨rfl, S0.out.2.trans hg⟩⟩
  refine (enter_any E _ i d ⟨#[40]⟩ (P E.T n) _ S0.out.1 (Lib.hid (by decide)) hx).mono ?_
  rintro e w1 ⟨v1, rfl, -, hst⟩
  have P0' := Lib.hid (P0.out.kept hst.2 (by omega))
  clear P0
  have P0 := P0'
  clear P0'
  have S1 := Lib.hid (S0.out.trans hst)
  have z1 := hst.2.size
  clear hst
  have HR1 := Lib.hid hq
  clear hx hq
  go_wp2_with fail
  rcases bind_cases HR1.out with ⟨j2, er, hx, hq⟩ | ⟨a2, j2, hx, hq⟩
  · exact (expr_any E _ j1 (d + 1) n ih _ S1.out.1 hx).mono fun e w' h => by obtain ⟨rfl, hg⟩ := h; exact ⟨rfl, by rw [hq]; exact ⟨rfl, S1.out.2.trans hg⟩⟩
  refine (expr_any E _ j1 (d + 1) n ih _ S1.out.1 hx).mono ?_
  rintro e w2 ⟨v2, rfl, ⟨nb2, hv, hn⟩, hst⟩
  obtain rfl := hv
  unfold nodeV
  have P0' := Lib.hid (P0.out.kept hst.2 (by omega))
  clear P0
  have P0 := P0'
  clear P0'
  have N2 := Lib.hid (hn.from (B := w.heap.size) (by omega))
  clear hn
  have S2 := Lib.hid (S1.out.trans hst)
  have z2 := hst.2.size
  clear hst
  have HR2 := Lib.hid hq
  clear hx hq
  have V := Lib.hid (PtrAt.new w2 (some ⟨nb2, 0, none⟩))
  have P0' := Lib.hid (P0.out.below (b1 w2 (.cells #[.pointer (some ⟨nb2, 0, none⟩)] 25)))
  clear P0
  have P0 := P0'
  clear P0'
  have N2' := Lib.hid (N2.out.bl (b1 w2 (.cells #[.pointer (some ⟨nb2, 0, none⟩)] 25)))
  clear N2
  have N2 := N2'
  clear N2'
  have S3 := Lib.hid (S2.out.below (b1 w2 (.cells #[.pointer (some ⟨nb2, 0, none⟩)] 25)))
  have z3 := (b1 w2 (.cells #[.pointer (some ⟨nb2, 0, none⟩)] 25)).size
  have y3 : w2.heap.size < (w2.alloc (.cells #[.pointer (some ⟨nb2, 0, none⟩)] 25)).heap.size := by simp
  go_wp2_with fail
  generalize w2.alloc (.cells #[.pointer (some ⟨nb2, 0, none⟩)] 25) = w3 at *
  rcases bind_cases HR2.out with ⟨j4, er, hx, hq⟩ | ⟨a4, j4, hx, hq⟩
  · exact (need_any E _ j2 (d + 1) ⟨#[41]⟩ (P E.T n) _ S3.out.1 (Lib.hid (by decide)) hx).mono fun e w' h => by obtain ⟨rfl, hg⟩ := h; exact ⟨rfl, by rw [hq]; exact ⟨rfl, S3.out.2.trans hg⟩⟩
  refine (need_any E _ j2 (d + 1) ⟨#[41]⟩ (P E.T n) _ S3.out.1 (Lib.hid (by decide)) hx).mono ?_
  rintro e w4 ⟨v4, rfl, -, hst⟩
  have P0' := Lib.hid (P0.out.kept hst.2 (by omega))
  clear P0
  have P0 := P0'
  clear P0'
  have N2' := Lib.hid (N2.out.st hst.2 (by omega))
  clear N2
  have N2 := N2'
  clear N2'
  have V' := Lib.hid (V.out.kept hst.2 (by omega))
  clear V
  have V := V'
  clear V'
  have S4 := Lib.hid (S3.out.trans hst)
  have z4 := hst.2.size
  clear hst
  have HR4 := Lib.hid hq
  clear hx hq
  go_wp2_with fail
  have HQ : Hid (r = .ok a2 j4) := (Option.some.inj HR4.out).symm
  refine (leave_any E _ j4 d S4.out.1).mono ?_
  rintro e w5 ⟨rfl, hst⟩
  have P0' := Lib.hid (P0.out.kept hst.2 (by omega))
  clear P0
  have P0 := P0'
  clear P0'
  have N2' := Lib.hid (N2.out.st hst.2 (by omega))
  clear N2
  have N2 := N2'
  clear N2'
  have V' := Lib.hid (V.out.kept hst.2 (by omega))
  clear V
  have V := V'
  clear V'
  have S5 := Lib.hid (S4.out.trans hst)
  have z5 := hst.2.size
  clear hst
  have V0 := V.out.c0
  have q0 := P0.out.c0
  have f0 := P0.out.f0
  go_wp2_with fail
  refine bodyPost_ret (v := nodeV nb2) (by unfold nodeV; simp [results, Tryz.results145, go_sem, q0]) rfl ?_
  rw [HQ.out]
  exact pass_done H.out S5.out N2.out (by omega) _

set_option maxRecDepth 100000 in
set_option maxHeartbeats 400000 in
theorem creation_any (E : Env) (w : World) (i d : Nat) (c : Callee) (r : Res Tree) (h : RD E w i d) (hr : Hid (runW E.T c (creation) i = some r)) :
    Calls Tryz.prog 157 #[.pointer (some ⟨E.rb, 0, none⟩)] w (Q E w d (VN E w.heap.size) r) := by
  have H := Lib.hid h
  have hr1 := h.lt
  have hf0 := tok_kind
  have hf1 := tok_text
  have hf2 := tok_at
  have S0 := Lib.hid (ST.below (ST.refl h) (b1 w (.cells #[.pointer none] 25)))
  have P0 := Lib.hid (PtrAt.new w none)
  have l0 := P0.out.lt
  clear h
  go_enter Tryz.func157, Tryz.ntmps157
  go_wp2_with fail
  generalize w.alloc (.cells #[.pointer none] 25) = wa at *
  rcases bind_cases hr.out with ⟨j1, er, hx, hq⟩ | ⟨a1, j1, hx, hq⟩
  · exact (need_any E _ i d ⟨#[110, 101, 119]⟩ c _ S0.out.1 (Lib.hid (by decide)) hx).mono fun e w' h => by obtain ⟨rfl, hg⟩ := h; exact ⟨rfl, by rw [hq]; exact ⟨rfl, S0.out.2.trans hg⟩⟩
  refine (need_any E _ i d ⟨#[110, 101, 119]⟩ c _ S0.out.1 (Lib.hid (by decide)) hx).mono ?_
  rintro e w1 ⟨v1, rfl, -, hst⟩
  have P0' := Lib.hid (P0.out.kept hst.2 (by omega))
  clear P0
  have P0 := P0'
  clear P0'
  have S1 := Lib.hid (S0.out.trans hst)
  have z1 := hst.2.size
  clear hst
  have HR1 := Lib.hid hq
  clear hx hq
  go_wp2_with fail
  rcases bind_cases HR1.out with ⟨j2, er, hx, hq⟩ | ⟨a2, j2, hx, hq⟩
  · exact (need_any E _ j1 d ⟨#[40]⟩ c _ S1.out.1 (Lib.hid (by decide)) hx).mono fun e w' h => by obtain ⟨rfl, hg⟩ := h; exact ⟨rfl, by rw [hq]; exact ⟨rfl, S1.out.2.trans hg⟩⟩
  refine (need_any E _ j1 d ⟨#[40]⟩ c _ S1.out.1 (Lib.hid (by decide)) hx).mono ?_
  rintro e w2 ⟨v2, rfl, -, hst⟩
  have P0' := Lib.hid (P0.out.kept hst.2 (by omega))
  clear P0
  have P0 := P0'
  clear P0'
  have S2 := Lib.hid (S1.out.trans hst)
  have z2 := hst.2.size
  clear hst
  have HR2 := Lib.hid hq
  clear hx hq
  go_wp2_with fail
  rcases bind_cases HR2.out with ⟨j3, er, hx, hq⟩ | ⟨a3, j3, hx, hq⟩
  · exact (word_any E _ j2 d c _ S2.out.1 hx).mono fun e w' h => by obtain ⟨rfl, hg⟩ := h; exact ⟨rfl, by rw [hq]; exact ⟨rfl, S2.out.2.trans hg⟩⟩
  refine (word_any E _ j2 d c _ S2.out.1 hx).mono ?_
  rintro e w3 ⟨v3, rfl, ⟨hv, htx⟩, hst⟩
  obtain rfl := hv
  unfold tokV
  have P0' := Lib.hid (P0.out.kept hst.2 (by omega))
  clear P0
  have P0 := P0'
  clear P0'
  have X3 := Lib.hid htx
  clear htx
  have S3 := Lib.hid (S2.out.trans hst)
  have z3 := hst.2.size
  clear hst
  have HR3 := Lib.hid hq
  clear hx hq
  have T := Lib.hid (TokAt.new w3 (E.T a3.1).kind ⟨(E.T a3.1).text.toArray⟩ (E.pl a3.1))
  have P0' := Lib.hid (P0.out.below (b1 w3 (.cells #[.int .i64 (E.T a3.1).kind, .string ⟨(E.T a3.1).text.toArray⟩, .int .i64 (E.pl a3.1)] 46)))
  clear P0
  have P0 := P0'
  clear P0'
  have S4 := Lib.hid (S3.out.below (b1 w3 (.cells #[.int .i64 (E.T a3.1).kind, .string ⟨(E.T a3.1).text.toArray⟩, .int .i64 (E.pl a3.1)] 46)))
  have z4 := (b1 w3 (.cells #[.int .i64 (E.T a3.1).kind, .string ⟨(E.T a3.1).text.toArray⟩, .int .i64 (E.pl a3.1)] 46)).size
  have y4 : w3.heap.size < (w3.alloc (.cells #[.int .i64 (E.T a3.1).kind, .string ⟨(E.T a3.1).text.toArray⟩, .int .i64 (E.pl a3.1)] 46)).heap.size := by simp
  go_wp2_with fail
  generalize w3.alloc (.cells #[.int .i64 (E.T a3.1).kind, .string ⟨(E.T a3.1).text.toArray⟩, .int .i64 (E.pl a3.1)] 46) = w4 at *
  rcases bind_cases HR3.out with ⟨j5, er, hx, hq⟩ | ⟨a5, j5, hx, hq⟩
  · exact (need_any E _ j3 d ⟨#[41]⟩ c _ S4.out.1 (Lib.hid (by decide)) hx).mono fun e w' h => by obtain ⟨rfl, hg⟩ := h; exact ⟨rfl, by rw [hq]; exact ⟨rfl, S4.out.2.trans hg⟩⟩
  refine (need_any E _ j3 d ⟨#[41]⟩ c _ S4.out.1 (Lib.hid (by decide)) hx).mono ?_
  rintro e w5 ⟨v5, rfl, -, hst⟩
  have P0' := Lib.hid (P0.out.kept hst.2 (by omega))
  clear P0
  have P0 := P0'
  clear P0'
  have T' := Lib.hid (T.out.kept hst.2 (by omega))
  clear T
  have T := T'
  clear T'
  have S5 := Lib.hid (S4.out.trans hst)
  have z5 := hst.2.size
  clear hst
  have HR5 := Lib.hid hq
  clear hx hq
  have HQ : Hid (r = .ok (.mk 19 a3.2 [] 0 a3.1 []) j5) := (Option.some.inj HR5.out).symm
  have T0 := T.out.c0
  have T1 := T.out.c1
  have T2 := T.out.c2
  go_wp2_with fail
  refine (newNode_any _ _ _ _ _ _ _ _ _).mono ?_
  rintro e wz ⟨rfl, hb9, hrow⟩
  have P9 := P0.out.below hb9
  have q0 := P9.c0
  have f0 := P9.f0
  have HB9 := Lib.hid hb9
  have HROW := Lib.hid hrow
  clear hb9 hrow P9
  unfold nodeV
  go_wp2_with fail
  refine bodyPost_ret (v := nodeV w5.heap.size) (by unfold nodeV; simp [results, Tryz.results157, go_sem, q0]) rfl ?_
  rw [HQ.out]
  have hrow := HROW.out
  rw [X3.out] at hrow
  exact node_done H.out S5.out (KidsIn.nil (fun x => w.heap.size < x) E.pl w5) (by omega) HB9.out hrow (by omega) (by omega) _

set_option maxRecDepth 100000 in
set_option maxHeartbeats 400000 in
theorem input_any (E : Env) (w : World) (i d : Nat) (c : Callee) (r : Res Tree) (h : RD E w i d) (hr : Hid (runW E.T c (input) i = some r)) :
    Calls Tryz.prog 158 #[.pointer (some ⟨E.rb, 0, none⟩)] w (Q E w d (VN E w.heap.size) r) := by
  have H := Lib.hid h
  have hr1 := h.lt
  have hf0 := tok_kind
  have hf1 := tok_text
  have hf2 := tok_at
  have S0 := Lib.hid (ST.below (ST.refl h) (b1 w (.cells #[.pointer none] 25)))
  have P0 := Lib.hid (PtrAt.new w none)
  have l0 := P0.out.lt
  clear h
  go_enter Tryz.func158, Tryz.ntmps158
  go_wp2_with fail
  generalize w.alloc (.cells #[.pointer none] 25) = wa at *
  rcases bind_cases hr.out with ⟨j1, er, hx, hq⟩ | ⟨a1, j1, hx, hq⟩
  · exact (need_any E _ i d ⟨#[114, 101, 97, 100]⟩ c _ S0.out.1 (Lib.hid (by decide)) hx).mono fun e w' h => by obtain ⟨rfl, hg⟩ := h; exact ⟨rfl, by rw [hq]; exact ⟨rfl, S0.out.2.trans hg⟩⟩
  refine (need_any E _ i d ⟨#[114, 101, 97, 100]⟩ c _ S0.out.1 (Lib.hid (by decide)) hx).mono ?_
  rintro e w1 ⟨v1, rfl, hv, hst⟩
  obtain rfl := hv
  unfold tokV
  have P0' := Lib.hid (P0.out.kept hst.2 (by omega))
  clear P0
  have P0 := P0'
  clear P0'
  have S1 := Lib.hid (S0.out.trans hst)
  have z1 := hst.2.size
  clear hst
  have HR1 := Lib.hid hq
  clear hx hq
  go_wp2_with fail
  rcases bind_cases HR1.out with ⟨j2, er, hx, hq⟩ | ⟨a2, j2, hx, hq⟩
  · exact (need_any E _ j1 d ⟨#[40]⟩ c _ S1.out.1 (Lib.hid (by decide)) hx).mono fun e w' h => by obtain ⟨rfl, hg⟩ := h; exact ⟨rfl, by rw [hq]; exact ⟨rfl, S1.out.2.trans hg⟩⟩
  refine (need_any E _ j1 d ⟨#[40]⟩ c _ S1.out.1 (Lib.hid (by decide)) hx).mono ?_
  rintro e w2 ⟨v2, rfl, -, hst⟩
  have P0' := Lib.hid (P0.out.kept hst.2 (by omega))
  clear P0
  have P0 := P0'
  clear P0'
  have S2 := Lib.hid (S1.out.trans hst)
  have z2 := hst.2.size
  clear hst
  have HR2 := Lib.hid hq
  clear hx hq
  go_wp2_with fail
  rcases bind_cases HR2.out with ⟨j3, er, hx, hq⟩ | ⟨a3, j3, hx, hq⟩
  · exact (need_any E _ j2 d ⟨#[41]⟩ c _ S2.out.1 (Lib.hid (by decide)) hx).mono fun e w' h => by obtain ⟨rfl, hg⟩ := h; exact ⟨rfl, by rw [hq]; exact ⟨rfl, S2.out.2.trans hg⟩⟩
  refine (need_any E _ j2 d ⟨#[41]⟩ c _ S2.out.1 (Lib.hid (by decide)) hx).mono ?_
  rintro e w3 ⟨v3, rfl, -, hst⟩
  have P0' := Lib.hid (P0.out.kept hst.2 (by omega))
  clear P0
  have P0 := P0'
  clear P0'
  have S3 := Lib.hid (S2.out.trans hst)
  have z3 := hst.2.size
  clear hst
  have HR3 := Lib.hid hq
  clear hx hq
  have HQ : Hid (r = .ok (.mk 22 [] [] 0 a1 []) j3) := (Option.some.inj HR3.out).symm
  go_wp2_with fail
  refine (newNode_any _ _ _ _ _ _ _ _ _).mono ?_
  rintro e wz ⟨rfl, hb9, hrow⟩
  have P9 := P0.out.below hb9
  have q0 := P9.c0
  have f0 := P9.f0
  have HB9 := Lib.hid hb9
  have HROW := Lib.hid hrow
  clear hb9 hrow P9
  unfold nodeV
  go_wp2_with fail
  refine bodyPost_ret (v := nodeV w3.heap.size) (by unfold nodeV; simp [results, Tryz.results158, go_sem, q0]) rfl ?_
  rw [HQ.out]
  have hrow := HROW.out
  exact node_done H.out S3.out (KidsIn.nil (fun x => w.heap.size < x) E.pl w3) (by omega) HB9.out hrow (by omega) (by omega) _

end Go.Proofs.YtfbejfoalnhihaaGreatDoor

/-
  CONTRACT: block of the reader, where calls one step down are as they should be. Nobody but the reader's own block has turned.
-/
namespace Go.Proofs.YtfbejfoalnhihaaGreatDoor
open Go.RowKit

theorem KidsIn.slice {ok : Nat → Prop} {pl : Nat → Nat} {w : World} {v : Value} {n : Nat} {ts : List Tree} (h : KidsIn ok pl w v n ts) : ∃ A c, v = .slice A n c ∧ n ≤ c ∧ (0 < n → ∃ g, A = some ⟨g, 0, none⟩ ∧ v.ownBlock = some g) := by
  obtain ⟨bs, h1, -⟩ := h
  exact slice_of h1

set_option maxRecDepth 100000 in
set_option maxHeartbeats 400000 in
theorem block_any (E : Env) (w : World) (i d : Nat) (n : Nat) (ih : IH E n) (r : Res Tree) (h : RD E w i d) (hr : Hid (runW E.T (P E.T n) (block d) i = some r)) :
    Calls Tryz.prog 100 #[.pointer (some ⟨E.rb, 0, none⟩)] w (Q E w d (VN E w.heap.size) r) := by
  have H := Lib.hid h
  have hr1 := h.lt
  have hf0 := tok_kind
  have hf1 := tok_text
  have hf2 := tok_at
  have S0 := Lib.hid (ST.below (ST.refl h) (b1 w (.cells #[.pointer none] 25)))
  have P0 := Lib.hid (PtrAt.new w none)
  have l0 := P0.out.lt
  clear h
  go_enter Tryz.func100, Tryz.ntmps100
  go_wp2_with fail
  generalize w.alloc (.cells #[.pointer none] 25) = wa at *
  rcases bind_cases hr.out with ⟨j1, er, hx, hq⟩ | ⟨a1, j1, hx, hq⟩
  · exact (enter_any E _ i d ⟨#[123]⟩ (P E.T n) _ S0.out.1 (Lib.hid (by decide)) hx).mono fun e w' h => by obtain ⟨rfl, hg⟩ := h; exact ⟨rfl, by rw [hq]; exact ⟨rfl, S0.out.2.trans hg⟩⟩
  refine (enter_any E _ i d ⟨#[123]⟩ (P E.T n) _ S0.out.1 (Lib.hid (by decide)) hx).mono ?_
  rintro e w1 ⟨v1, rfl, hv, hst⟩
  obtain rfl := hv
  unfold tokV
  have P0' := Lib.hid (P0.out.kept hst.2 (by omega))
  clear P0
  have P0 := P0'
  clear P0'
  have S1 := Lib.hid (S0.out.trans hst)
  have z1 := hst.2.size
  clear hst
  have HR1 := Lib.hid hq
  clear hx hq
  obtain ⟨rs, hrs, hbad, hok⟩ := call_some HR1.out
  have HRS := Lib.hid hrs
  have HBAD := Lib.hid hbad
  have HOK := Lib.hid hok
  clear hrs hbad hok
  have hz := H.out.zle
  go_wp2_with fail
  go_loopw [4] (fun v wr => KRel E n w w.heap.size .stmts (d + 1) rs v wr) (fun _ wr => E.z - nx E wr)
  case atStart => exact ⟨n, 0, j1, [], rs, Nat.le_refl _, Nat.zero_le _, by omega, HRS, Lib.hid (preR_nil rs).symm, KidsIn.nil _ _ _, S1, P0⟩
  case round =>
    obtain ⟨m, k, iq, ts, rq, hm, hk, hB, HP, HE, K, S, P0⟩ := hrel
    obtain ⟨m, rfl, hp⟩ := P_pos HP.out
    have HR := Lib.hid hp
    clear hp HP
    have hiz := S.out.1.ile
    have hnx := S.out.1.at_nx
    have HNX := Lib.hid hnx
    clear hnx
    by_cases ht : (E.T iq).text = cRC
    · skip
      have h0 := peek_yes HR.out ht
      have HR2 := Lib.hid (run_next h0)
      clear h0
      have hq := run_ret HR2.out
      have hrs : rs = .ok ts (iq + 1) := by rw [HE.out, hq]; simp [preR]
      have HQ : Hid (r = .ok (.mk 6 [] [] 0 a1 ts) (iq + 1)) := run_ret (HOK.out _ _ hrs)
      clear hq hrs
      go_wp2_with fail
      refine (take_yes E _ iq (d + 1) ⟨#[125]⟩ S.out.1 ht (Lib.hid (by decide))).mono ?_
      rintro e w3 ⟨rfl, hst⟩
      have K' := Lib.hid (K.out.st hst.2 (by omega))
      clear K
      have K := K'
      clear K'
      have P0' := Lib.hid (P0.out.kept hst.2 (by omega))
      clear P0
      have P0 := P0'
      clear P0'
      have S3 := Lib.hid (S.out.trans hst)
      have z3 := hst.2.size
      clear hst
      clear ht
      go_wp2_with fail
      refine (leave_any E _ (iq + 1) d S3.out.1).mono ?_
      rintro e w4 ⟨rfl, hst⟩
      have K' := Lib.hid (K.out.st hst.2 (by omega))
      clear K
      have K := K'
      clear K'
      have P0' := Lib.hid (P0.out.kept hst.2 (by omega))
      clear P0
      have P0 := P0'
      clear P0'
      have S4 := Lib.hid (S3.out.trans hst)
      have z4 := hst.2.size
      clear hst
      obtain ⟨Ak, ck, hvk, -, -⟩ := K.out.slice
      subst hvk
      go_wp2_with fail
      refine (newNode_any _ _ _ _ _ _ _ _ _).mono ?_
      rintro e w9 ⟨rfl, hb9, hrow⟩
      have P9 := P0.out.below hb9
      have q0 := P9.c0
      have f0 := P9.f0
      have HB9 := Lib.hid hb9
      have HROW := Lib.hid hrow
      clear hb9 hrow P9
      unfold nodeV
      go_wp2_with fail
      refine bodyPost_ret (v := nodeV w4.heap.size) (by unfold nodeV; simp [results, Tryz.results100, go_sem, q0]) rfl ?_
      rw [HQ.out]
      have hrow := HROW.out
      exact node_done H.out S4.out K.out (by omega) HB9.out hrow (by omega) (by omega) _
    · skip
      have HR5 := Lib.hid (peek_no HR.out ht)
      go_wp2_with fail
      refine (take_no E _ iq (d + 1) ⟨#[125]⟩ S.out.1 ht).mono ?_
      rintro e w6 ⟨rfl, hb⟩
      have K' := Lib.hid (K.out.bl hb)
      clear K
      have K := K'
      clear K'
      have P0' := Lib.hid (P0.out.below hb)
      clear P0
      have P0 := P0'
      clear P0'
      have S6 := Lib.hid (S.out.below hb)
      have z6 := hb.size
      clear hb
      clear ht
      go_wp2_with fail
      have KL := Lib.hid K.out.lt
      rcases call_cases HR5.out with ⟨j7, er, hx, hq⟩ | ⟨a7, j7, hx, hq⟩
      · exact (ih.stmt _ iq (d + 1) _ S6.out.1 (P_mono E.T (by omega) _ _ _ _ hx)).mono fun e w' h => by obtain ⟨rfl, hg⟩ := h; exact ⟨rfl, by rw [HBAD.out j7 er (by rw [HE.out, hq]; rfl)]; exact ⟨rfl, S6.out.2.trans hg⟩⟩
      have hpr := P_prog S.out.1.sent (nt := .stmt) trivial hiz hx
      simp only [minc] at hpr
      refine (ih.stmt _ iq (d + 1) _ S6.out.1 (P_mono E.T (by omega) _ _ _ _ hx)).mono ?_
      rintro e w7 ⟨v7, rfl, ⟨nb7, hv, hn⟩, hst⟩
      obtain rfl := hv
      unfold nodeV
      have K' := Lib.hid (K.out.st hst.2 (by omega))
      clear K
      have K := K'
      clear K'
      have P0' := Lib.hid (P0.out.kept hst.2 (by omega))
      clear P0
      have P0 := P0'
      clear P0'
      have N7 := Lib.hid (hn.from (B := w.heap.size) (by omega))
      have M7 := Lib.hid hn
      clear hn
      have S7 := Lib.hid (S6.out.trans hst)
      have z7 := hst.2.size
      clear hst
      rcases call_cases hq with ⟨j9, er, hy, hq2⟩ | ⟨a9, j9, hy, hq2⟩
      · skip
        have HP : Hid (P E.T m .stmts (d + 1) j7 = some (.bad j9 er)) := hy
        have HE2 : Hid (rs = preR (ts ++ [hd a7]) (.bad j9 er)) := by show _ = _; rw [HE.out, hq2]; rfl
        clear hx hq hy hq2
        have L := Lib.hid (show (w7.alloc (.cells #[.pointer (some ⟨nb7, 0, none⟩)] 25)).cell? ⟨w7.heap.size, 0, none⟩ = some (.pointer (some ⟨nb7, 0, none⟩)) by simp [go_sem])
        have K' := Lib.hid (K.out.bl (b1 w7 (.cells #[.pointer (some ⟨nb7, 0, none⟩)] 25)))
        clear K
        have K := K'
        clear K'
        have P0' := Lib.hid (P0.out.below (b1 w7 (.cells #[.pointer (some ⟨nb7, 0, none⟩)] 25)))
        clear P0
        have P0 := P0'
        clear P0'
        have N7' := Lib.hid (N7.out.bl (b1 w7 (.cells #[.pointer (some ⟨nb7, 0, none⟩)] 25)))
        clear N7
        have N7 := N7'
        clear N7'
        have M7' := Lib.hid (M7.out.bl (b1 w7 (.cells #[.pointer (some ⟨nb7, 0, none⟩)] 25)))
        clear M7
        have M7 := M7'
        clear M7'
        have S8 := Lib.hid (S7.out.below (b1 w7 (.cells #[.pointer (some ⟨nb7, 0, none⟩)] 25)))
        have z8 := (b1 w7 (.cells #[.pointer (some ⟨nb7, 0, none⟩)] 25)).size
        have y8 : w7.heap.size < (w7.alloc (.cells #[.pointer (some ⟨nb7, 0, none⟩)] 25)).heap.size := by simp
        go_wp2_with (at_builtin; refine Hid.out ?_)
        generalize w7.alloc (.cells #[.pointer (some ⟨nb7, 0, none⟩)] 25) = w8 at *
        refine Lib.hid ?_
        refine wpList_append_kid rfl (.tmp 11) (.tmp 14) rfl w.heap.size E.pl _ k ts rfl K.out nb7 (hd a7) N7.out (fun g hg => M7.out.weak fun x hx _ => ⟨by omega, by have := KL.out g hg; omega⟩) _ rfl L.out (by omega) (by omega) ?_
        intro g9 cap9 w9 hk hg hy
        have P0' := Lib.hid (P0.out.grow hg (fun e => by have := hy _ e; omega))
        clear P0
        have P0 := P0'
        clear P0'
        have S9 := Lib.hid (ST.grow H.out S8.out hg (fun y e => by have := hy y e; omega))
        have z9 := hg.size
        clear K
        have K := Lib.hid hk
        clear hk hg hy
        have hnx2 := S9.out.1.at_nx
        have HNX2 := Lib.hid hnx2
        clear hnx2
        go_wp2_with fail
        go_roundw
        case rel => exact ⟨m, k + 1, _, _, _, by omega, by omega, by omega, HP, HE2, K, S9, P0⟩
        case measure => rw [HNX.out, HNX2.out]; omega
      · skip
        have HP : Hid (P E.T m .stmts (d + 1) j7 = some (.ok a9 j9)) := hy
        have HE2 : Hid (rs = preR (ts ++ [hd a7]) (.ok a9 j9)) := by show _ = _; rw [HE.out, run_ret hq2]; simp [preR]
        clear hx hq hy hq2
        have L := Lib.hid (show (w7.alloc (.cells #[.pointer (some ⟨nb7, 0, none⟩)] 25)).cell? ⟨w7.heap.size, 0, none⟩ = some (.pointer (some ⟨nb7, 0, none⟩)) by simp [go_sem])
        have K' := Lib.hid (K.out.bl (b1 w7 (.cells #[.pointer (some ⟨nb7, 0, none⟩)] 25)))
        clear K
        have K := K'
        clear K'
        have P0' := Lib.hid (P0.out.below (b1 w7 (.cells #[.pointer (some ⟨nb7, 0, none⟩)] 25)))
        clear P0
        have P0 := P0'
        clear P0'
        have N7' := Lib.hid (N7.out.bl (b1 w7 (.cells #[.pointer (some ⟨nb7, 0, none⟩)] 25)))
        clear N7
        have N7 := N7'
        clear N7'
        have M7' := Lib.hid (M7.out.bl (b1 w7 (.cells #[.pointer (some ⟨nb7, 0, none⟩)] 25)))
        clear M7
        have M7 := M7'
        clear M7'
        have S10 := Lib.hid (S7.out.below (b1 w7 (.cells #[.pointer (some ⟨nb7, 0, none⟩)] 25)))
        have z10 := (b1 w7 (.cells #[.pointer (some ⟨nb7, 0, none⟩)] 25)).size
        have y10 : w7.heap.size < (w7.alloc (.cells #[.pointer (some ⟨nb7, 0, none⟩)] 25)).heap.size := by simp
        go_wp2_with (at_builtin; refine Hid.out ?_)
        generalize w7.alloc (.cells #[.pointer (some ⟨nb7, 0, none⟩)] 25) = w10 at *
        refine Lib.hid ?_
        refine wpList_append_kid rfl (.tmp 11) (.tmp 14) rfl w.heap.size E.pl _ k ts rfl K.out nb7 (hd a7) N7.out (fun g hg => M7.out.weak fun x hx _ => ⟨by omega, by have := KL.out g hg; omega⟩) _ rfl L.out (by omega) (by omega) ?_
        intro g11 cap11 w11 hk hg hy
        have P0' := Lib.hid (P0.out.grow hg (fun e => by have := hy _ e; omega))
        clear P0
        have P0 := P0'
        clear P0'
        have S11 := Lib.hid (ST.grow H.out S10.out hg (fun y e => by have := hy y e; omega))
        have z11 := hg.size
        clear K
        have K := Lib.hid hk
        clear hk hg hy
        have hnx2 := S11.out.1.at_nx
        have HNX2 := Lib.hid hnx2
        clear hnx2
        go_wp2_with fail
        go_roundw
        case rel => exact ⟨m, k + 1, _, _, _, by omega, by omega, by omega, HP, HE2, K, S11, P0⟩
        case measure => rw [HNX.out, HNX2.out]; omega

end Go.Proofs.YtfbejfoalnhihaaGreatDoor

/-
  CONTRACTS: arguments and parts of the reader, where calls one step down are as they should be. Nobody but the reader's own block has turned.
-/
namespace Go.Proofs.YtfbejfoalnhihaaGreatDoor
open Go.RowKit

theorem expr_prog {T : Nat → AT} {z m d i j : Nat} {x : Tree} (S : Sent T z) (hi : i ≤ z) (h : runW T (P T m) (expr d) i = some (.ok x j)) : i + 1 ≤ j ∧ j ≤ z := by
  rcases call_cases h with ⟨j', e, h1, h2⟩ | ⟨a, j', h1, h2⟩
  · cases h2
  · have := run_ret h2
    injection this with e1 e2
    subst e2
    exact P_prog S (nt := .binary 1) (Nat.le_refl 1) hi h1

set_option maxRecDepth 100000 in
set_option maxHeartbeats 400000 in
theorem arguments_any (E : Env) (w : World) (i d : Nat) (n : Nat) (ih : IH E n) (r : Res (List Tree)) (h : RD E w i d) (hr : Hid (runW E.T (P E.T n) (args d) i = some r)) :
    Calls Tryz.prog 170 #[.pointer (some ⟨E.rb, 0, none⟩)] w (Q E w d (VL E w.heap.size) r) := by
  have H := Lib.hid h
  have hr1 := h.lt
  have hf0 := tok_kind
  have hf1 := tok_text
  have hf2 := tok_at
  have S0 := Lib.hid (ST.refl h)
  clear h
  go_enter Tryz.func170, Tryz.ntmps170
  go_wp2_with fail
  have hz := H.out.zle
  rcases bind_cases hr.out with ⟨j1, er, hx, hq⟩ | ⟨a1, j1, hx, hq⟩
  · exact (enter_any E _ i d ⟨#[40]⟩ (P E.T n) _ S0.out.1 (Lib.hid (by decide)) hx).mono fun e w' h => by obtain ⟨rfl, hg⟩ := h; exact ⟨rfl, by rw [hq]; exact ⟨rfl, S0.out.2.trans hg⟩⟩
  refine (enter_any E _ i d ⟨#[40]⟩ (P E.T n) _ S0.out.1 (Lib.hid (by decide)) hx).mono ?_
  rintro e w1 ⟨v1, rfl, -, hst⟩
  have S1 := Lib.hid (S0.out.trans hst)
  have z1 := hst.2.size
  clear hst
  have HR1 := Lib.hid hq
  clear hx hq
  go_wp2_with fail
  by_cases ht : (E.T j1).text = cRB
  · skip
    have h0 := peek_yes HR1.out ht
    have HR2 := Lib.hid h0
    clear h0
    refine (is_yes E _ j1 (d + 1) ⟨#[41]⟩ S1.out.1 ht).mono ?_
    rintro e w3 ⟨rfl, hb⟩
    have S3 := Lib.hid (S1.out.below hb)
    have z3 := hb.size
    clear hb
    clear ht
    go_wp2_with fail
    rcases bind_cases HR2.out with ⟨j9, er, hx, hq⟩ | ⟨a9, j9, hx, hq⟩
    · exact (need_any E _ j1 (d + 1) ⟨#[41]⟩ (P E.T n) _ S3.out.1 (Lib.hid (by decide)) hx).mono fun e w' h => by obtain ⟨rfl, hg⟩ := h; exact ⟨rfl, by rw [hq]; exact ⟨rfl, S3.out.2.trans hg⟩⟩
    refine (need_any E _ j1 (d + 1) ⟨#[41]⟩ (P E.T n) _ S3.out.1 (Lib.hid (by decide)) hx).mono ?_
    rintro e w9 ⟨v9, rfl, -, hst⟩
    have S9 := Lib.hid (S3.out.trans hst)
    have z9 := hst.2.size
    clear hst
    have HQ := Lib.hid (run_ret hq)
    clear hx hq
    go_wp2_with fail
    refine (leave_any E _ j9 d S9.out.1).mono ?_
    rintro e w10 ⟨rfl, hst⟩
    have S10 := Lib.hid (S9.out.trans hst)
    have z10 := hst.2.size
    clear hst
    go_wp2_with fail
    go_ret
    rw [HQ.out]
    exact ⟨_, rfl, vl_end (KidsIn.nil _ _ _) (by omega), S10.out⟩
  · skip
    have HR11 := Lib.hid (peek_no HR1.out ht)
    refine (is_no E _ j1 (d + 1) ⟨#[41]⟩ S1.out.1 ht).mono ?_
    rintro e w12 ⟨rfl, hb⟩
    have S12 := Lib.hid (S1.out.below hb)
    have z12 := hb.size
    clear hb
    clear ht
    go_wp2_with fail
    have K := Lib.hid (KidsIn.nil (fun x => w.heap.size - 1 < x) E.pl w12)
    have KL := Lib.hid K.out.lt
    rcases bind_cases HR11.out with ⟨j13, er, hx, hq⟩ | ⟨a13, j13, hx, hq⟩
    · exact (expr_any E _ j1 (d + 1) n ih _ S12.out.1 hx).mono fun e w' h => by obtain ⟨rfl, hg⟩ := h; exact ⟨rfl, by rw [hq]; exact ⟨rfl, S12.out.2.trans hg⟩⟩
    have hp1 := expr_prog S12.out.1.sent S12.out.1.ile hx
    refine (expr_any E _ j1 (d + 1) n ih _ S12.out.1 hx).mono ?_
    rintro e w13 ⟨v13, rfl, ⟨nb13, hv, hn⟩, hst⟩
    obtain rfl := hv
    unfold nodeV
    have K' := Lib.hid (K.out.st hst.2 (by omega))
    clear K
    have K := K'
    clear K'
    have N13 := Lib.hid (hn.from (B := (w.heap.size - 1)) (by omega))
    have M13 := Lib.hid hn
    clear hn
    have S13 := Lib.hid (S12.out.trans hst)
    have z13 := hst.2.size
    clear hst
    have HR13 := Lib.hid hq
    clear hx hq
    obtain ⟨rs, hrs, hbad, hok⟩ := call_some HR13.out
    have HRS := Lib.hid hrs
    have HBAD : Hid (∀ j e, preR [a13] rs = .bad j e → r = .bad j e) := fun j e h => hbad j e (preR_bad h)
    have HOK : Hid (∀ a j, preR [a13] rs = .ok a j → r = .ok a j) := fun a j h => by obtain ⟨a', h1, h2⟩ := preR_ok h; rw [run_ret (hok a' j h1), h2]; rfl
    clear hrs hbad hok
    have h1i : 1 ≤ j13 := by omega
    have L := Lib.hid (show (w13.alloc (.cells #[.pointer (some ⟨nb13, 0, none⟩)] 25)).cell? ⟨w13.heap.size, 0, none⟩ = some (.pointer (some ⟨nb13, 0, none⟩)) by simp [go_sem])
    have K' := Lib.hid (K.out.bl (b1 w13 (.cells #[.pointer (some ⟨nb13, 0, none⟩)] 25)))
    clear K
    have K := K'
    clear K'
    have N13' := Lib.hid (N13.out.bl (b1 w13 (.cells #[.pointer (some ⟨nb13, 0, none⟩)] 25)))
    clear N13
    have N13 := N13'
    clear N13'
    have M13' := Lib.hid (M13.out.bl (b1 w13 (.cells #[.pointer (some ⟨nb13, 0, none⟩)] 25)))
    clear M13
    have M13 := M13'
    clear M13'
    have S14 := Lib.hid (S13.out.below (b1 w13 (.cells #[.pointer (some ⟨nb13, 0, none⟩)] 25)))
    have z14 := (b1 w13 (.cells #[.pointer (some ⟨nb13, 0, none⟩)] 25)).size
    have y14 : w13.heap.size < (w13.alloc (.cells #[.pointer (some ⟨nb13, 0, none⟩)] 25)).heap.size := by simp
    go_wp2_with (at_builtin; refine Hid.out ?_)
    generalize w13.alloc (.cells #[.pointer (some ⟨nb13, 0, none⟩)] 25) = w14 at *
    refine Lib.hid ?_
    refine wpList_append_kid rfl (.tmp 9) (.tmp 12) rfl (w.heap.size - 1) E.pl _ 0 [] rfl K.out nb13 a13 N13.out (fun g hg => M13.out.weak fun x hx _ => ⟨by omega, by have := KL.out g hg; omega⟩) _ rfl L.out (by omega) (by omega) ?_
    intro g15 cap15 w15 hk hg hy
    have S15 := Lib.hid (ST.grow H.out S14.out hg (fun y e => by have := hy y e; omega))
    have z15 := hg.size
    clear K
    have K := Lib.hid hk
    clear hk hg hy
    go_wp2_with fail
    go_loopw [3] (fun v wr => KRelL E n w .args (d + 1) (d + 1) (preR [a13] rs) v wr) (fun _ wr => E.z - nx E wr)
    case atStart => exact ⟨n, 1, j13, [a13], rs, Nat.le_refl _, h1i, by omega, HRS, Lib.hid rfl, K, S15⟩
    case round =>
      obtain ⟨m, k, iq, ts, rq, hm, hk, hB, HP, HE, K, S⟩ := hrel
      obtain ⟨m, rfl, hp⟩ := P_pos HP.out
      have HR := Lib.hid hp
      clear hp HP
      have hiz := S.out.1.ile
      have hnx := S.out.1.at_nx
      have HNX := Lib.hid hnx
      clear hnx
      by_cases ht : (E.T iq).text = cComma
      · skip
        have h0 := peek_yes HR.out ht
        have HR16 := Lib.hid (run_next h0)
        clear h0
        go_wp2_with fail
        refine (take_yes E _ iq (d + 1) ⟨#[44]⟩ S.out.1 ht (Lib.hid (by decide))).mono ?_
        rintro e w17 ⟨rfl, hst⟩
        have K' := Lib.hid (K.out.st hst.2 (by omega))
        clear K
        have K := K'
        clear K'
        have S17 := Lib.hid (S.out.trans hst)
        have z17 := hst.2.size
        clear hst
        clear ht
        go_wp2_with fail
        have KL2 := Lib.hid K.out.lt
        have hiz2 := S17.out.1.ile
        rcases bind_cases HR16.out with ⟨j18, er, hx, hq⟩ | ⟨a18, j18, hx, hq⟩
        · exact (expr_any E _ (iq + 1) (d + 1) n ih _ S17.out.1 (runW_at E.T (by omega) _ _ _ hx)).mono fun e w' h => by obtain ⟨rfl, hg⟩ := h; exact ⟨rfl, by rw [HBAD.out j18 er (by rw [HE.out, hq]; rfl)]; exact ⟨rfl, S17.out.2.trans hg⟩⟩
        have hpr := expr_prog S17.out.1.sent S17.out.1.ile hx
        refine (expr_any E _ (iq + 1) (d + 1) n ih _ S17.out.1 (runW_at E.T (by omega) _ _ _ hx)).mono ?_
        rintro e w18 ⟨v18, rfl, ⟨nb18, hv, hn⟩, hst⟩
        obtain rfl := hv
        unfold nodeV
        have K' := Lib.hid (K.out.st hst.2 (by omega))
        clear K
        have K := K'
        clear K'
        have N18 := Lib.hid (hn.from (B := (w.heap.size - 1)) (by omega))
        have M18 := Lib.hid hn
        clear hn
        have S18 := Lib.hid (S17.out.trans hst)
        have z18 := hst.2.size
        clear hst
        rcases call_cases hq with ⟨j9, er, hy, hq2⟩ | ⟨a9, j9, hy, hq2⟩
        · skip
          have HP : Hid (P E.T m .args (d + 1) j18 = some (.bad j9 er)) := hy
          have HE2 : Hid (preR [a13] rs = preR (ts ++ [a18]) (.bad j9 er)) := by show _ = _; rw [HE.out, hq2]; rfl
          clear hx hq hy hq2
          have L := Lib.hid (show (w18.alloc (.cells #[.pointer (some ⟨nb18, 0, none⟩)] 25)).cell? ⟨w18.heap.size, 0, none⟩ = some (.pointer (some ⟨nb18, 0, none⟩)) by simp [go_sem])
          have K' := Lib.hid (K.out.bl (b1 w18 (.cells #[.pointer (some ⟨nb18, 0, none⟩)] 25)))
          clear K
          have K := K'
          clear K'
          have N18' := Lib.hid (N18.out.bl (b1 w18 (.cells #[.pointer (some ⟨nb18, 0, none⟩)] 25)))
          clear N18
          have N18 := N18'
          clear N18'
          have M18' := Lib.hid (M18.out.bl (b1 w18 (.cells #[.pointer (some ⟨nb18, 0, none⟩)] 25)))
          clear M18
          have M18 := M18'
          clear M18'
          have S19 := Lib.hid (S18.out.below (b1 w18 (.cells #[.pointer (some ⟨nb18, 0, none⟩)] 25)))
          have z19 := (b1 w18 (.cells #[.pointer (some ⟨nb18, 0, none⟩)] 25)).size
          have y19 : w18.heap.size < (w18.alloc (.cells #[.pointer (some ⟨nb18, 0, none⟩)] 25)).heap.size := by simp
          go_wp2_with (at_builtin; refine Hid.out ?_)
          generalize w18.alloc (.cells #[.pointer (some ⟨nb18, 0, none⟩)] 25) = w19 at *
          refine Lib.hid ?_
          refine wpList_append_kid rfl (.tmp 16) (.tmp 19) rfl (w.heap.size - 1) E.pl _ k ts rfl K.out nb18 a18 N18.out (fun g hg => M18.out.weak fun x hx _ => ⟨by omega, by have := KL2.out g hg; omega⟩) _ rfl L.out (by omega) (by omega) ?_
          intro g20 cap20 w20 hk hg hy
          have S20 := Lib.hid (ST.grow H.out S19.out hg (fun y e => by have := hy y e; omega))
          have z20 := hg.size
          clear K
          have K := Lib.hid hk
          clear hk hg hy
          have hnx2 := S20.out.1.at_nx
          have HNX2 := Lib.hid hnx2
          clear hnx2
          go_wp2_with fail
          go_roundw
          case rel => exact ⟨m, k + 1, _, _, _, by omega, by omega, by omega, HP, HE2, K, S20⟩
          case measure => rw [HNX.out, HNX2.out]; omega
        · skip
          have HP : Hid (P E.T m .args (d + 1) j18 = some (.ok a9 j9)) := hy
          have HE2 : Hid (preR [a13] rs = preR (ts ++ [a18]) (.ok a9 j9)) := by show _ = _; rw [HE.out, run_ret hq2]; simp [preR]
          clear hx hq hy hq2
          have L := Lib.hid (show (w18.alloc (.cells #[.pointer (some ⟨nb18, 0, none⟩)] 25)).cell? ⟨w18.heap.size, 0, none⟩ = some (.pointer (some ⟨nb18, 0, none⟩)) by simp [go_sem])
          have K' := Lib.hid (K.out.bl (b1 w18 (.cells #[.pointer (some ⟨nb18, 0, none⟩)] 25)))
          clear K
          have K := K'
          clear K'
          have N18' := Lib.hid (N18.out.bl (b1 w18 (.cells #[.pointer (some ⟨nb18, 0, none⟩)] 25)))
          clear N18
          have N18 := N18'
          clear N18'
          have M18' := Lib.hid (M18.out.bl (b1 w18 (.cells #[.pointer (some ⟨nb18, 0, none⟩)] 25)))
          clear M18
          have M18 := M18'
          clear M18'
          have S21 := Lib.hid (S18.out.below (b1 w18 (.cells #[.pointer (some ⟨nb18, 0, none⟩)] 25)))
          have z21 := (b1 w18 (.cells #[.pointer (some ⟨nb18, 0, none⟩)] 25)).size
          have y21 : w18.heap.size < (w18.alloc (.cells #[.pointer (some ⟨nb18, 0, none⟩)] 25)).heap.size := by simp
          go_wp2_with (at_builtin; refine Hid.out ?_)
          generalize w18.alloc (.cells #[.pointer (some ⟨nb18, 0, none⟩)] 25) = w21 at *
          refine Lib.hid ?_
          refine wpList_append_kid rfl (.tmp 16) (.tmp 19) rfl (w.heap.size - 1) E.pl _ k ts rfl K.out nb18 a18 N18.out (fun g hg => M18.out.weak fun x hx _ => ⟨by omega, by have := KL2.out g hg; omega⟩) _ rfl L.out (by omega) (by omega) ?_
          intro g22 cap22 w22 hk hg hy
          have S22 := Lib.hid (ST.grow H.out S21.out hg (fun y e => by have := hy y e; omega))
          have z22 := hg.size
          clear K
          have K := Lib.hid hk
          clear hk hg hy
          have hnx2 := S22.out.1.at_nx
          have HNX2 := Lib.hid hnx2
          clear hnx2
          go_wp2_with fail
          go_roundw
          case rel => exact ⟨m, k + 1, _, _, _, by omega, by omega, by omega, HP, HE2, K, S22⟩
          case measure => rw [HNX.out, HNX2.out]; omega
      · skip
        have HR23 := Lib.hid (peek_no HR.out ht)
        go_wp2_with fail
        refine (take_no E _ iq (d + 1) ⟨#[44]⟩ S.out.1 ht).mono ?_
        rintro e w24 ⟨rfl, hb⟩
        have K' := Lib.hid (K.out.bl hb)
        clear K
        have K := K'
        clear K'
        have S24 := Lib.hid (S.out.below hb)
        have z24 := hb.size
        clear hb
        clear ht
        go_wp2_with fail
        rcases bind_cases HR23.out with ⟨j25, er, hx, hq⟩ | ⟨a25, j25, hx, hq⟩
        · exact (need_any E _ iq (d + 1) ⟨#[41]⟩ (P E.T m) _ S24.out.1 (Lib.hid (by decide)) hx).mono fun e w' h => by obtain ⟨rfl, hg⟩ := h; exact ⟨rfl, by rw [HBAD.out j25 er (by rw [HE.out, hq]; rfl)]; exact ⟨rfl, S24.out.2.trans hg⟩⟩
        refine (need_any E _ iq (d + 1) ⟨#[41]⟩ (P E.T m) _ S24.out.1 (Lib.hid (by decide)) hx).mono ?_
        rintro e w25 ⟨v25, rfl, -, hst⟩
        have K' := Lib.hid (K.out.st hst.2 (by omega))
        clear K
        have K := K'
        clear K'
        have S25 := Lib.hid (S24.out.trans hst)
        have z25 := hst.2.size
        clear hst
        have HQ : Hid (r = .ok ts j25) := HOK.out _ _ (by rw [HE.out, run_ret hq]; simp [preR])
        clear hx hq
        go_wp2_with fail
        refine (leave_any E _ j25 d S25.out.1).mono ?_
        rintro e w26 ⟨rfl, hst⟩
        have K' := Lib.hid (K.out.st hst.2 (by omega))
        clear K
        have K := K'
        clear K'
        have S26 := Lib.hid (S25.out.trans hst)
        have z26 := hst.2.size
        clear hst
        go_wp2_with fail
        go_ret
        rw [HQ.out]
        exact ⟨_, rfl, vl_end K.out (by omega), S26.out⟩

set_option maxRecDepth 100000 in
set_option maxHeartbeats 400000 in
theorem parts_any (E : Env) (w : World) (i d : Nat) (n : Nat) (_ : IH E n) (r : Res (List Tree)) (h : RD E w i d) (hr : Hid (runW E.T (P E.T n) (fparts) i = some r)) :
    Calls Tryz.prog 98 #[.pointer (some ⟨E.rb, 0, none⟩)] w (Q E w d (VL E w.heap.size) r) := by
  have H := Lib.hid h
  have hr1 := h.lt
  have hf0 := tok_kind
  have hf1 := tok_text
  have hf2 := tok_at
  have S0 := Lib.hid (ST.refl h)
  clear h
  go_enter Tryz.func98, Tryz.ntmps98
  go_wp2_with fail
  have hz := H.out.zle
  rcases bind_cases hr.out with ⟨j1, er, hx, hq⟩ | ⟨a1, j1, hx, hq⟩
  · exact (need_any E _ i d ⟨#[40]⟩ (P E.T n) _ S0.out.1 (Lib.hid (by decide)) hx).mono fun e w' h => by obtain ⟨rfl, hg⟩ := h; exact ⟨rfl, by rw [hq]; exact ⟨rfl, S0.out.2.trans hg⟩⟩
  refine (need_any E _ i d ⟨#[40]⟩ (P E.T n) _ S0.out.1 (Lib.hid (by decide)) hx).mono ?_
  rintro e w1 ⟨v1, rfl, -, hst⟩
  have S1 := Lib.hid (S0.out.trans hst)
  have z1 := hst.2.size
  clear hst
  have HR1 := Lib.hid hq
  clear hx hq
  go_wp2_with fail
  by_cases ht : (E.T j1).text = cRB
  · skip
    have h0 := peek_yes HR1.out ht
    have HR2 := Lib.hid (run_next h0)
    clear h0
    have HQ := Lib.hid (run_ret HR2.out)
    refine (take_yes E _ j1 d ⟨#[41]⟩ S1.out.1 ht (Lib.hid (by decide))).mono ?_
    rintro e w3 ⟨rfl, hst⟩
    have S3 := Lib.hid (S1.out.trans hst)
    have z3 := hst.2.size
    clear hst
    clear ht
    go_wp2_with fail
    go_ret
    rw [HQ.out]
    exact ⟨_, rfl, vl_end (KidsIn.nil _ _ _) (by omega), S3.out⟩
  · skip
    have HR4 := Lib.hid (peek_no HR1.out ht)
    refine (take_no E _ j1 d ⟨#[41]⟩ S1.out.1 ht).mono ?_
    rintro e w5 ⟨rfl, hb⟩
    have S5 := Lib.hid (S1.out.below hb)
    have z5 := hb.size
    clear hb
    clear ht
    go_wp2_with fail
    have K := Lib.hid (KidsIn.nil (fun x => w.heap.size - 1 < x) E.pl w5)
    have KL := Lib.hid K.out.lt
    rcases bind_cases HR4.out with ⟨j6, er, hx, hq⟩ | ⟨a6, j6, hx, hq⟩
    · exact (typed_any E _ j1 d 5 (P E.T n) _ S5.out.1 (by omega) hx).mono fun e w' h => by obtain ⟨rfl, hg⟩ := h; exact ⟨rfl, by rw [hq]; exact ⟨rfl, S5.out.2.trans hg⟩⟩
    have hp1 := tot_prog (tot_typed S5.out.1.sent 5 _) hx
    refine (typed_any E _ j1 d 5 (P E.T n) _ S5.out.1 (by omega) hx).mono ?_
    rintro e w6 ⟨v6, rfl, ⟨nb6, hv, hn⟩, hst⟩
    obtain rfl := hv
    unfold nodeV
    have K' := Lib.hid (K.out.st hst.2 (by omega))
    clear K
    have K := K'
    clear K'
    have N6 := Lib.hid (hn.from (B := (w.heap.size - 1)) (by omega))
    have M6 := Lib.hid hn
    clear hn
    have S6 := Lib.hid (S5.out.trans hst)
    have z6 := hst.2.size
    clear hst
    have HR6 := Lib.hid hq
    clear hx hq
    obtain ⟨rs, hrs, hbad, hok⟩ := call_some HR6.out
    have HRS := Lib.hid hrs
    have HBAD : Hid (∀ j e, preR [a6] rs = .bad j e → r = .bad j e) := fun j e h => hbad j e (preR_bad h)
    have HOK : Hid (∀ a j, preR [a6] rs = .ok a j → r = .ok a j) := fun a j h => by obtain ⟨a', h1, h2⟩ := preR_ok h; rw [run_ret (hok a' j h1), h2]; rfl
    clear hrs hbad hok
    have h1i : 1 ≤ j6 := by omega
    have K1 := Lib.hid (kids_lit1 N6.out (by omega))
    have N6' := Lib.hid (N6.out.bl (b1 w6 (.cells #[.pointer (some ⟨nb6, 0, none⟩)] 25)))
    clear N6
    have N6 := N6'
    clear N6'
    have M6' := Lib.hid (M6.out.bl (b1 w6 (.cells #[.pointer (some ⟨nb6, 0, none⟩)] 25)))
    clear M6
    have M6 := M6'
    clear M6'
    have S7 := Lib.hid (S6.out.below (b1 w6 (.cells #[.pointer (some ⟨nb6, 0, none⟩)] 25)))
    have z7 := (b1 w6 (.cells #[.pointer (some ⟨nb6, 0, none⟩)] 25)).size
    have y7 : w6.heap.size < (w6.alloc (.cells #[.pointer (some ⟨nb6, 0, none⟩)] 25)).heap.size := by simp
    go_wp2_with fail
    generalize w6.alloc (.cells #[.pointer (some ⟨nb6, 0, none⟩)] 25) = w7 at *
    go_loopw [3] (fun v wr => KRelL E n w .params 0 d (preR [a6] rs) v wr) (fun _ wr => E.z - nx E wr)
    case atStart => exact ⟨n, 1, j6, [a6], rs, Nat.le_refl _, h1i, by omega, HRS, Lib.hid rfl, K1, S7⟩
    case round =>
      obtain ⟨m, k, iq, ts, rq, hm, hk, hB, HP, HE, K, S⟩ := hrel
      obtain ⟨m, rfl, hp⟩ := P_pos HP.out
      have HR := Lib.hid hp
      clear hp HP
      have hiz := S.out.1.ile
      have hnx := S.out.1.at_nx
      have HNX := Lib.hid hnx
      clear hnx
      by_cases ht : (E.T iq).text = cComma
      · skip
        have h0 := peek_yes HR.out ht
        have HR8 := Lib.hid (run_next h0)
        clear h0
        go_wp2_with fail
        refine (take_yes E _ iq d ⟨#[44]⟩ S.out.1 ht (Lib.hid (by decide))).mono ?_
        rintro e w9 ⟨rfl, hst⟩
        have K' := Lib.hid (K.out.st hst.2 (by omega))
        clear K
        have K := K'
        clear K'
        have S9 := Lib.hid (S.out.trans hst)
        have z9 := hst.2.size
        clear hst
        clear ht
        go_wp2_with fail
        have KL2 := Lib.hid K.out.lt
        have hiz2 := S9.out.1.ile
        rcases bind_cases HR8.out with ⟨j10, er, hx, hq⟩ | ⟨a10, j10, hx, hq⟩
        · exact (typed_any E _ (iq + 1) d 5 (P E.T n) _ S9.out.1 (by omega) (runW_at E.T (by omega) _ _ _ hx)).mono fun e w' h => by obtain ⟨rfl, hg⟩ := h; exact ⟨rfl, by rw [HBAD.out j10 er (by rw [HE.out, hq]; rfl)]; exact ⟨rfl, S9.out.2.trans hg⟩⟩
        have hpr := tot_prog (tot_typed S9.out.1.sent 5 _) hx
        refine (typed_any E _ (iq + 1) d 5 (P E.T n) _ S9.out.1 (by omega) (runW_at E.T (by omega) _ _ _ hx)).mono ?_
        rintro e w10 ⟨v10, rfl, ⟨nb10, hv, hn⟩, hst⟩
        obtain rfl := hv
        unfold nodeV
        have K' := Lib.hid (K.out.st hst.2 (by omega))
        clear K
        have K := K'
        clear K'
        have N10 := Lib.hid (hn.from (B := (w.heap.size - 1)) (by omega))
        have M10 := Lib.hid hn
        clear hn
        have S10 := Lib.hid (S9.out.trans hst)
        have z10 := hst.2.size
        clear hst
        rcases call_cases hq with ⟨j9, er, hy, hq2⟩ | ⟨a9, j9, hy, hq2⟩
        · skip
          have HP : Hid (P E.T m .params 0 j10 = some (.bad j9 er)) := hy
          have HE2 : Hid (preR [a6] rs = preR (ts ++ [a10]) (.bad j9 er)) := by show _ = _; rw [HE.out, hq2]; rfl
          clear hx hq hy hq2
          have L := Lib.hid (show (w10.alloc (.cells #[.pointer (some ⟨nb10, 0, none⟩)] 25)).cell? ⟨w10.heap.size, 0, none⟩ = some (.pointer (some ⟨nb10, 0, none⟩)) by simp [go_sem])
          have K' := Lib.hid (K.out.bl (b1 w10 (.cells #[.pointer (some ⟨nb10, 0, none⟩)] 25)))
          clear K
          have K := K'
          clear K'
          have N10' := Lib.hid (N10.out.bl (b1 w10 (.cells #[.pointer (some ⟨nb10, 0, none⟩)] 25)))
          clear N10
          have N10 := N10'
          clear N10'
          have M10' := Lib.hid (M10.out.bl (b1 w10 (.cells #[.pointer (some ⟨nb10, 0, none⟩)] 25)))
          clear M10
          have M10 := M10'
          clear M10'
          have S11 := Lib.hid (S10.out.below (b1 w10 (.cells #[.pointer (some ⟨nb10, 0, none⟩)] 25)))
          have z11 := (b1 w10 (.cells #[.pointer (some ⟨nb10, 0, none⟩)] 25)).size
          have y11 : w10.heap.size < (w10.alloc (.cells #[.pointer (some ⟨nb10, 0, none⟩)] 25)).heap.size := by simp
          go_wp2_with (at_builtin; refine Hid.out ?_)
          generalize w10.alloc (.cells #[.pointer (some ⟨nb10, 0, none⟩)] 25) = w11 at *
          refine Lib.hid ?_
          refine wpList_append_kid rfl (.tmp 13) (.tmp 16) rfl (w.heap.size - 1) E.pl _ k ts rfl K.out nb10 a10 N10.out (fun g hg => M10.out.weak fun x hx _ => ⟨by omega, by have := KL2.out g hg; omega⟩) _ rfl L.out (by omega) (by omega) ?_
          intro g12 cap12 w12 hk hg hy
          have S12 := Lib.hid (ST.grow H.out S11.out hg (fun y e => by have := hy y e; omega))
          have z12 := hg.size
          clear K
          have K := Lib.hid hk
          clear hk hg hy
          have hnx2 := S12.out.1.at_nx
          have HNX2 := Lib.hid hnx2
          clear hnx2
          go_wp2_with fail
          go_roundw
          case rel => exact ⟨m, k + 1, _, _, _, by omega, by omega, by omega, HP, HE2, K, S12⟩
          case measure => rw [HNX.out, HNX2.out]; omega
        · skip
          have HP : Hid (P E.T m .params 0 j10 = some (.ok a9 j9)) := hy
          have HE2 : Hid (preR [a6] rs = preR (ts ++ [a10]) (.ok a9 j9)) := by show _ = _; rw [HE.out, run_ret hq2]; simp [preR]
          clear hx hq hy hq2
          have L := Lib.hid (show (w10.alloc (.cells #[.pointer (some ⟨nb10, 0, none⟩)] 25)).cell? ⟨w10.heap.size, 0, none⟩ = some (.pointer (some ⟨nb10, 0, none⟩)) by simp [go_sem])
          have K' := Lib.hid (K.out.bl (b1 w10 (.cells #[.pointer (some ⟨nb10, 0, none⟩)] 25)))
          clear K
          have K := K'
          clear K'
          have N10' := Lib.hid (N10.out.bl (b1 w10 (.cells #[.pointer (some ⟨nb10, 0, none⟩)] 25)))
          clear N10
          have N10 := N10'
          clear N10'
          have M10' := Lib.hid (M10.out.bl (b1 w10 (.cells #[.pointer (some ⟨nb10, 0, none⟩)] 25)))
          clear M10
          have M10 := M10'
          clear M10'
          have S13 := Lib.hid (S10.out.below (b1 w10 (.cells #[.pointer (some ⟨nb10, 0, none⟩)] 25)))
          have z13 := (b1 w10 (.cells #[.pointer (some ⟨nb10, 0, none⟩)] 25)).size
          have y13 : w10.heap.size < (w10.alloc (.cells #[.pointer (some ⟨nb10, 0, none⟩)] 25)).heap.size := by simp
          go_wp2_with (at_builtin; refine Hid.out ?_)
          generalize w10.alloc (.cells #[.pointer (some ⟨nb10, 0, none⟩)] 25) = w13 at *
          refine Lib.hid ?_
          refine wpList_append_kid rfl (.tmp 13) (.tmp 16) rfl (w.heap.size - 1) E.pl _ k ts rfl K.out nb10 a10 N10.out (fun g hg => M10.out.weak fun x hx _ => ⟨by omega, by have := KL2.out g hg; omega⟩) _ rfl L.out (by omega) (by omega) ?_
          intro g14 cap14 w14 hk hg hy
          have S14 := Lib.hid (ST.grow H.out S13.out hg (fun y e => by have := hy y e; omega))
          have z14 := hg.size
          clear K
          have K := Lib.hid hk
          clear hk hg hy
          have hnx2 := S14.out.1.at_nx
          have HNX2 := Lib.hid hnx2
          clear hnx2
          go_wp2_with fail
          go_roundw
          case rel => exact ⟨m, k + 1, _, _, _, by omega, by omega, by omega, HP, HE2, K, S14⟩
          case measure => rw [HNX.out, HNX2.out]; omega
      · skip
        have HR15 := Lib.hid (peek_no HR.out ht)
        go_wp2_with fail
        refine (take_no E _ iq d ⟨#[44]⟩ S.out.1 ht).mono ?_
        rintro e w16 ⟨rfl, hb⟩
        have K' := Lib.hid (K.out.bl hb)
        clear K
        have K := K'
        clear K'
        have S16 := Lib.hid (S.out.below hb)
        have z16 := hb.size
        clear hb
        clear ht
        go_wp2_with fail
        rcases bind_cases HR15.out with ⟨j17, er, hx, hq⟩ | ⟨a17, j17, hx, hq⟩
        · exact (need_any E _ iq d ⟨#[41]⟩ (P E.T m) _ S16.out.1 (Lib.hid (by decide)) hx).mono fun e w' h => by obtain ⟨rfl, hg⟩ := h; exact ⟨rfl, by rw [HBAD.out j17 er (by rw [HE.out, hq]; rfl)]; exact ⟨rfl, S16.out.2.trans hg⟩⟩
        refine (need_any E _ iq d ⟨#[41]⟩ (P E.T m) _ S16.out.1 (Lib.hid (by decide)) hx).mono ?_
        rintro e w17 ⟨v17, rfl, -, hst⟩
        have K' := Lib.hid (K.out.st hst.2 (by omega))
        clear K
        have K := K'
        clear K'
        have S17 := Lib.hid (S16.out.trans hst)
        have z17 := hst.2.size
        clear hst
        have HQ : Hid (r = .ok ts j17) := HOK.out _ _ (by rw [HE.out, run_ret hq]; simp [preR])
        clear hx hq
        go_wp2_with fail
        go_ret
        rw [HQ.out]
        exact ⟨_, rfl, vl_end K.out (by omega), S17.out⟩

end Go.Proofs.YtfbejfoalnhihaaGreatDoor
