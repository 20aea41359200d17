/-
  ParseJoins: THE LAW's CONTRACT: it answers true for every two texts, in a world in which the listed variables lie as the program's text lays them. Blocks from the world's end on alone are new.
-/
import Derived.Test.YtfbejfoalnhihaaGreatDoorJ10
namespace Go.Proofs.YtfbejfoalnhihaaGreatDoor
open Go.RowKit

theorem cat_list (a b : ByteArray) : (a ++ (⟨#[10]⟩ : ByteArray) ++ b).data.toList = a.data.toList ++ 10 :: b.data.toList := by
  rw [ByteArray.data_append, ByteArray.data_append]; simp
theorem cat_size (a b : ByteArray) : (a ++ (⟨#[10]⟩ : ByteArray) ++ b).size = a.size + 1 + b.size := by
  rw [← len_size, cat_list, List.length_append, List.length_cons, len_size, len_size]; omega
theorem parse_some (s : ByteArray) (w : World) (G : Good w) (hs : s.size ≤ 281474976710656) : Calls Tryz.prog 9 #[.string s] w fun e w' => ∃ (x : Option Addr) (p er : Int), e = .returned (.tuple #[.agg #[.pointer x], .int .i64 p, .int .i64 er]) ∧ Below w.heap.size w w' := by
  obtain ⟨r, hr⟩ : ∃ r, parseR s.data.toList = r := ⟨_, rfl⟩
  cases r with
  | bad p er =>
    refine Calls.mono (R := ParseQ s.data.toList (.bad p er) _) (parse_full s _ _ G hs (Lib.hid hr)) ?_
    rintro e w2 ⟨hb, rfl⟩
    exact ⟨_, _, _, rfl, hb⟩
  | ok ts ks =>
    refine Calls.mono (R := ParseQ s.data.toList (.ok ts ks) _) (parse_full s _ _ G hs (Lib.hid hr)) ?_
    rintro e w2 ⟨hb, b, rfl, hn⟩
    exact ⟨_, _, _, rfl, hb⟩

set_option maxRecDepth 100000 in
set_option maxHeartbeats 1000000 in
theorem joins_long (a b : ByteArray) (w : World) (g : Good w) (pw : PowIn w) (h : 1024 < a.size ∨ 1024 < b.size) : Calls Tryz.prog 6 #[.string a, .string b] w fun e w' => e = .returned (.bool true) ∧ Below w.heap.size w w' := by
  have AW := Lib.hid (awake_true w g pw)
  clear g pw
  go_enter Tryz.func6, Tryz.ntmps6
  go_wp2_with fail
  refine AW.out.mono ?_
  rintro e w1 ⟨rfl, hb⟩
  have B1 := Lib.hid hb
  clear hb AW
  by_cases ha : 1024 < a.size
  · have hli : (1024 : Int) < (a.size : Int) := by omega
    clear h
    go_wp2_with fail
    go_ret
    exact ⟨rfl, B1.out⟩
  · have hli : ¬ (1024 : Int) < (a.size : Int) := by omega
    have hlj : (1024 : Int) < (b.size : Int) := by omega
    clear h
    go_wp2_with fail
    go_ret
    exact ⟨rfl, B1.out⟩

set_option maxRecDepth 100000 in
set_option maxHeartbeats 1000000 in
theorem joins_bad (a b : ByteArray) (p er : Nat) (w : World) (g : Good w) (pw : PowIn w) (ha : a.size ≤ 1024) (hb0 : b.size ≤ 1024) (h : Hid (parseR a.data.toList = .bad p er)) : Calls Tryz.prog 6 #[.string a, .string b] w fun e w' => e = .returned (.bool true) ∧ Below w.heap.size w w' := by
  have AW := Lib.hid (awake_true w g pw)
  have G := Lib.hid g
  clear g pw
  have hne : ¬ er = 0 := parse_err h.out
  have hne2 : ((er : Int) != 0) = true := by simp; omega
  clear hne
  go_enter Tryz.func6, Tryz.ntmps6
  go_wp2_with fail
  refine AW.out.mono ?_
  rintro e w1 ⟨rfl, hb⟩
  have B1 := Lib.hid hb
  have G1 := Lib.hid (G.out.below hb)
  clear hb AW G
  have hli : ¬ (1024 : Int) < (a.size : Int) := by omega
  have hlj : ¬ (1024 : Int) < (b.size : Int) := by omega
  go_wp2_with fail
  refine Calls.mono (R := ParseQ a.data.toList (.bad p er) _) (parse_full a _ _ G1.out (by omega) h) ?_
  rintro e w2 ⟨hb, rfl⟩
  have B2 := Lib.hid (B1.out.trans ((hb.trans ((b1 w2 (.cells #[.pointer none] 25)).mono hb.size)).mono B1.out.size))
  have G2 := Lib.hid ((G1.out.below hb).below (b1 w2 (.cells #[.pointer none] 25)))
  clear hb G1 B1
  go_wp2_with fail
  refine (parse_some b _ G2.out (by omega)).mono ?_
  rintro e w3 ⟨x, p3, er3, rfl, hb⟩
  have B3 := Lib.hid (B2.out.trans ((hb.trans ((b1 w3 (.cells #[.pointer x] 25)).mono hb.size)).mono B2.out.size))
  clear hb G2 B2
  go_wp2_with fail
  go_ret
  exact ⟨rfl, B3.out⟩

set_option maxRecDepth 100000 in
set_option maxHeartbeats 1000000 in
theorem joins_bad2 (a b : ByteArray) (ts : List Tok) (ks : List Tree) (p er : Nat) (w : World) (g : Good w) (pw : PowIn w) (ha : a.size ≤ 1024) (hb0 : b.size ≤ 1024) (h : Hid (parseR a.data.toList = .ok ts ks)) (h2 : Hid (parseR b.data.toList = .bad p er)) : Calls Tryz.prog 6 #[.string a, .string b] w fun e w' => e = .returned (.bool true) ∧ Below w.heap.size w w' := by
  have AW := Lib.hid (awake_true w g pw)
  have G := Lib.hid g
  clear g pw
  have hne : ¬ er = 0 := parse_err h2.out
  have hne2 : ((er : Int) != 0) = true := by simp; omega
  clear hne
  go_enter Tryz.func6, Tryz.ntmps6
  go_wp2_with fail
  refine AW.out.mono ?_
  rintro e w1 ⟨rfl, hb⟩
  have B1 := Lib.hid hb
  have G1 := Lib.hid (G.out.below hb)
  clear hb AW G
  have hli : ¬ (1024 : Int) < (a.size : Int) := by omega
  have hlj : ¬ (1024 : Int) < (b.size : Int) := by omega
  go_wp2_with fail
  refine Calls.mono (R := ParseQ a.data.toList (.ok ts ks) _) (parse_full a _ _ G1.out (by omega) h) ?_
  rintro e w2 ⟨hb, ba, rfl, hn⟩
  have B2 := Lib.hid (B1.out.trans ((hb.trans ((b1 w2 (.cells #[.pointer (some ⟨ba, 0, none⟩)] 25)).mono hb.size)).mono B1.out.size))
  have G2 := Lib.hid ((G1.out.below hb).below (b1 w2 (.cells #[.pointer (some ⟨ba, 0, none⟩)] 25)))
  clear hb G1 B1 hn
  unfold nodeV
  go_wp2_with fail
  refine Calls.mono (R := ParseQ b.data.toList (.bad p er) _) (parse_full b _ _ G2.out (by omega) h2) ?_
  rintro e w3 ⟨hb, rfl⟩
  have B3 := Lib.hid (B2.out.trans ((hb.trans ((b1 w3 (.cells #[.pointer none] 25)).mono hb.size)).mono B2.out.size))
  clear hb G2 B2
  go_wp2_with fail
  go_ret
  exact ⟨rfl, B3.out⟩

theorem root_kids (ts : List Tok) (ks : List Tree) : (root ts ks).kids = ks := rfl
theorem root_size (ts : List Tok) (ks : List Tree) : sizeT (root ts ks) = sizeL ks + 1 := rfl
theorem kids_at {ok : Nat → Prop} {pl : Nat → Nat} {w : World} {b : Nat} {t : Tree} (h : NodeAt ok pl w b t) (m : Nat) (hm : t.kids.length = m) : ∀ w', Below w.heap.size w w' → Calls Tryz.prog 12 #[.agg #[.pointer (some ⟨b, 0, none⟩)]] w' fun e w2 => e = .returned (.int .i64 (m : Int)) ∧ Below w'.heap.size w' w2 := fun w' hb => by
  obtain ⟨A, c, hr⟩ := (h.bl hb).rowOf
  rw [hm] at hr
  exact kids_of _ _ _ _ _ _ _ _ _ _ hr
theorem size_at {ok : Nat → Prop} {pl : Nat → Nat} {w : World} {b : Nat} {t : Tree} (h : NodeAt ok pl w b t) (m : Nat) (hm : sizeT t = m) (hs : m ≤ 100000) : ∀ w', Below w.heap.size w w' → Calls Tryz.prog 13 #[.agg #[.pointer (some ⟨b, 0, none⟩)]] w' fun e w2 => e = .returned (.int .i64 (m : Int)) ∧ Below w'.heap.size w' w2 := fun w' hb => by
  have c := size_any (sizeT t) t (Nat.le_refl _) w' b ok pl (h.bl hb)
  rw [hm, show wrap64 (m : Int) = m by unfold wrap64; omega] at c
  exact c
theorem kids_like {ok ok' : Nat → Prop} {pl pl' : Nat → Nat} {w : World} {b b' : Nat} {t u : Tree} (h : NodeAt ok pl w b t) (h' : NodeAt ok' pl' w b' u) (k k' : Nat) (x y : Tree) (hx : t.kids[k]? = some x) (hy : u.kids[k']? = some y) (he : EE x y) :
    ∃ X' Y' : Option Addr, (∀ w', Below w.heap.size w w' → Calls Tryz.prog 21 #[.agg #[.pointer (some ⟨b, 0, none⟩)], .int .i64 (k : Int)] w' fun e w2 => e = .returned (.agg #[.pointer X']) ∧ Below w'.heap.size w' w2) ∧ (∀ w', Below w.heap.size w w' → Calls Tryz.prog 21 #[.agg #[.pointer (some ⟨b', 0, none⟩)], .int .i64 (k' : Int)] w' fun e w2 => e = .returned (.agg #[.pointer Y']) ∧ Below w'.heap.size w' w2) ∧
    (∀ w', Below w.heap.size w w' → Calls Tryz.prog 18 #[.agg #[.pointer X'], .agg #[.pointer Y']] w' fun e w2 => e = .returned (.bool true) ∧ Below w'.heap.size w' w2) := by
  obtain ⟨nb, hn, hc⟩ := kid_fix h k x hx
  obtain ⟨nb', hn', hc'⟩ := kid_fix h' k' y hy
  exact ⟨_, _, hc, hc', fun w' hb => alike_any _ x y (Nat.le_refl _) he w' nb nb' ok ok' pl pl' (hn.bl hb) (hn'.bl hb)⟩
def JoRel (w9 : World) (m : Nat) (i : Value) (wr : World) : Prop := ∃ k : Nat, k ≤ m ∧ i = .int .i64 k ∧ Hid (Below w9.heap.size w9 wr)

set_option maxRecDepth 100000 in
set_option maxHeartbeats 4000000 in
theorem joins_ok (a b : ByteArray) (ta tb tc : List Tok) (ka kb kc kb' : List Tree) (w : World) (g : Good w) (pw : PowIn w) (ha : a.size ≤ 1024) (hb0 : b.size ≤ 1024) (h : Hid (parseR a.data.toList = .ok ta ka)) (h2 : Hid (parseR b.data.toList = .ok tb kb)) (h3 : Hid (parseR (a ++ (⟨#[10]⟩ : ByteArray) ++ b).data.toList = .ok tc kc)) (hkc : Hid (kc = ka ++ kb')) (hel : Hid (EL kb kb')) : Calls Tryz.prog 6 #[.string a, .string b] w fun e w' => e = .returned (.bool true) ∧ Below w.heap.size w w' := by
  have AW := Lib.hid (awake_true w g pw)
  have G := Lib.hid g
  clear g pw
  obtain ⟨m1, hm1⟩ : ∃ m, ka.length = m := ⟨_, rfl⟩
  obtain ⟨m2, hm2⟩ : ∃ m, kb.length = m := ⟨_, rfl⟩
  have hm3 : kc.length = m1 + m2 := by
    rw [hkc.out, List.length_append, hm1]
    have := congrArg List.length hel.out
    simp only [List.length_map] at this
    omega
  obtain ⟨s1, hs1⟩ : ∃ m, sizeL ka + 1 = m := ⟨_, rfl⟩
  obtain ⟨s2, hs2⟩ : ∃ m, sizeL kb + 1 = m := ⟨_, rfl⟩
  have hs3 : sizeL kc + 1 = s1 + s2 - 1 := by
    rw [hkc.out, sizeL_append, ← sizeL_el hel.out]; omega
  have q1 : s1 ≤ 5000 ∧ 1 ≤ s1 := by have h0 := parsed h.out; have := h0.2.2; have := h0.1.len; have := h0.1.le; omega
  have q2 : s2 ≤ 5000 ∧ 1 ≤ s2 := by have h0 := parsed h2.out; have := h0.2.2; have := h0.1.len; have := h0.1.le; omega
  have HC : Hid ((a ++ (⟨#[10]⟩ : ByteArray) ++ b).size ≤ 281474976710656) := by show _ ≤ _; rw [cat_size]; omega
  have HM1 := Lib.hid hm1
  have HM2 := Lib.hid hm2
  have HM3 := Lib.hid hm3
  have HS1 := Lib.hid hs1
  have HS2 := Lib.hid hs2
  have HS3 := Lib.hid hs3
  clear hm1 hm2 hm3 hs1 hs2 hs3
  go_enter Tryz.func6, Tryz.ntmps6
  go_wp2_with fail
  refine AW.out.mono ?_
  rintro e w1 ⟨rfl, hb⟩
  have B1 := Lib.hid hb
  have G1 := Lib.hid (G.out.below hb)
  clear hb AW G
  have hli : ¬ (1024 : Int) < (a.size : Int) := by omega
  have hlj : ¬ (1024 : Int) < (b.size : Int) := by omega
  go_wp2_with fail
  refine Calls.mono (R := ParseQ a.data.toList (.ok ta ka) _) (parse_full a _ _ G1.out (by omega) h) ?_
  rintro e w2 ⟨hb, ba, rfl, hn⟩
  have BX := Lib.hid (b1 w2 (.cells #[.pointer (some ⟨ba, 0, none⟩)] 25))
  have B2 := Lib.hid (B1.out.trans ((hb.trans (BX.out.mono hb.size)).mono B1.out.size))
  have G2 := Lib.hid ((G1.out.below hb).below BX.out)
  have N2 := Lib.hid (hn.bl BX.out)
  have U2 := Lib.hid (PtrAt.new w2 (some ⟨ba, 0, none⟩))
  clear hb G1 B1 hn BX
  unfold nodeV
  go_wp2_with fail
  refine Calls.mono (R := ParseQ b.data.toList (.ok tb kb) _) (parse_full b _ _ G2.out (by omega) h2) ?_
  rintro e w3 ⟨hb, bb, rfl, hn⟩
  have BX := Lib.hid (b1 w3 (.cells #[.pointer (some ⟨bb, 0, none⟩)] 25))
  have B3 := Lib.hid (B2.out.trans ((hb.trans (BX.out.mono hb.size)).mono B2.out.size))
  have G3 := Lib.hid ((G2.out.below hb).below BX.out)
  have N3 := Lib.hid ((N2.out.bl hb).bl BX.out)
  have M3 := Lib.hid (hn.bl BX.out)
  have U3 := Lib.hid ((U2.out.below hb).below BX.out)
  have V3 := Lib.hid (PtrAt.new w3 (some ⟨bb, 0, none⟩))
  clear hb G2 B2 hn BX U2 N2
  unfold nodeV
  go_wp2_with fail
  refine Calls.mono (R := ParseQ (a ++ (⟨#[10]⟩ : ByteArray) ++ b).data.toList (.ok tc kc) _) (parse_full _ _ _ G3.out HC.out h3) ?_
  rintro e w4 ⟨hb, bc, rfl, hn⟩
  have BX := Lib.hid (b1 w4 (.cells #[.pointer (some ⟨bc, 0, none⟩)] 25))
  have B4 := Lib.hid (B3.out.trans ((hb.trans (BX.out.mono hb.size)).mono B3.out.size))
  have N4 := Lib.hid ((N3.out.bl hb).bl BX.out)
  have M4 := Lib.hid ((M3.out.bl hb).bl BX.out)
  have O4 := Lib.hid (hn.bl BX.out)
  have U4 := Lib.hid ((U3.out.below hb).below BX.out)
  have V4 := Lib.hid ((V3.out.below hb).below BX.out)
  have X4 := Lib.hid (PtrAt.new w4 (some ⟨bc, 0, none⟩))
  clear hb G3 B3 hn BX U3 V3 N3 M3
  unfold nodeV
  go_wp2_with fail
  generalize w4.alloc (.cells #[.pointer (some ⟨bc, 0, none⟩)] 25) = w5 at *
  have A12 := Lib.hid (kids_at N4.out m1 HM1.out)
  have B12 := Lib.hid (kids_at M4.out m2 HM2.out)
  obtain ⟨M3, hM3⟩ : ∃ M3 : Int, ((m1 + m2 : Nat) : Int) = M3 := ⟨_, rfl⟩
  obtain ⟨S3, hS3⟩ : ∃ S3 : Int, ((s1 + s2 - 1 : Nat) : Int) = S3 := ⟨_, rfl⟩
  obtain ⟨S12, hS12⟩ : ∃ S12 : Int, (s1 : Int) + (s2 : Int) = S12 := ⟨_, rfl⟩
  have C12 := Lib.hid (kids_at O4.out (m1 + m2) HM3.out)
  rw [hM3] at C12
  have A13 := Lib.hid (size_at N4.out s1 HS1.out (by omega))
  have B13 := Lib.hid (size_at M4.out s2 HS2.out (by omega))
  have C13 := Lib.hid (size_at O4.out (s1 + s2 - 1) HS3.out (by omega))
  rw [hS3] at C13
  have u0 := U4.out.c0
  have u1 := V4.out.c0
  have u2 := X4.out.c0
  have l0 := U4.out.lt
  have l1 := V4.out.lt
  have l2 := X4.out.lt
  have D0 : Hid (Below w5.heap.size w5 w5.drew) := (Below.refl _ _).drew
  have hmb : m1 ≤ 6000 ∧ m2 ≤ 6000 := by
    obtain ⟨A, c, hr, i1, i2, i3⟩ := N4.out.kid
    obtain ⟨A', c', hr', i1', i2', i3'⟩ := M4.out.kid
    rw [root_kids, HM1.out] at i2
    rw [root_kids, HM2.out] at i2'
    exact ⟨i2, i2'⟩
  have K1 : Hid (∀ k, k < m1 → ∃ X' Y' : Option Addr, (∀ w', Below w5.heap.size w5 w' → Calls Tryz.prog 21 #[.agg #[.pointer (some ⟨bc, 0, none⟩)], .int .i64 (k : Int)] w' fun e w2 => e = .returned (.agg #[.pointer X']) ∧ Below w'.heap.size w' w2) ∧ (∀ w', Below w5.heap.size w5 w' → Calls Tryz.prog 21 #[.agg #[.pointer (some ⟨ba, 0, none⟩)], .int .i64 (k : Int)] w' fun e w2 => e = .returned (.agg #[.pointer Y']) ∧ Below w'.heap.size w' w2) ∧
      (∀ w', Below w5.heap.size w5 w' → Calls Tryz.prog 18 #[.agg #[.pointer X'], .agg #[.pointer Y']] w' fun e w2 => e = .returned (.bool true) ∧ Below w'.heap.size w' w2)) := fun k hk => by
    have hk' : k < ka.length := by rw [HM1.out]; exact hk
    refine kids_like O4.out N4.out k k ka[k] ka[k] ?_ (by rw [root_kids]; exact List.getElem?_eq_getElem hk') rfl
    rw [root_kids, hkc.out, List.getElem?_append_left hk']
    exact List.getElem?_eq_getElem hk'
  have K2 : Hid (∀ k, m1 ≤ k → k < m1 + m2 → ∃ X' Y' : Option Addr, (∀ w', Below w5.heap.size w5 w' → Calls Tryz.prog 21 #[.agg #[.pointer (some ⟨bc, 0, none⟩)], .int .i64 (k : Int)] w' fun e w2 => e = .returned (.agg #[.pointer X']) ∧ Below w'.heap.size w' w2) ∧ (∀ w', Below w5.heap.size w5 w' → Calls Tryz.prog 21 #[.agg #[.pointer (some ⟨bb, 0, none⟩)], .int .i64 ((k - m1 : Nat) : Int)] w' fun e w2 => e = .returned (.agg #[.pointer Y']) ∧ Below w'.heap.size w' w2) ∧
      (∀ w', Below w5.heap.size w5 w' → Calls Tryz.prog 18 #[.agg #[.pointer X'], .agg #[.pointer Y']] w' fun e w2 => e = .returned (.bool true) ∧ Below w'.heap.size w' w2)) := fun k hk hk2 => by
    have hk' : k - m1 < kb.length := by rw [HM2.out]; omega
    obtain ⟨v, hv, hev⟩ := er_kid hel.out (List.getElem?_eq_getElem hk')
    refine kids_like O4.out M4.out k (k - m1) v kb[k - m1] ?_ (by rw [root_kids]; exact List.getElem?_eq_getElem hk') hev.symm
    rw [root_kids, hkc.out, List.getElem?_append_right (by rw [HM1.out]; exact hk), HM1.out]
    exact hv
  have f1 : IntKind.i64.wrap ((m1 : Int) + (m2 : Int)) = M3 := by rw [IntWalk.i64_in _ (by omega)]; omega
  have f2 : IntKind.i64.wrap ((s1 : Int) + (s2 : Int)) = S12 := by rw [IntWalk.i64_in _ (by omega)]; omega
  have f3 : IntKind.i64.wrap (S12 - 1) = S3 := by rw [IntWalk.i64_in _ (by omega)]; omega
  have HM := Lib.hid hM3
  clear hM3 hS3 hS12 N4 M4 O4 HM1 HM2 HM3 HS1 HS2 HS3 h h2 h3 hkc hel HC
  go_region_held3 (fun w' => Below w5.heap.size w5 w' ∧ w'.cell? ⟨w2.heap.size, 0, none⟩ = some (.pointer (some ⟨ba, 0, none⟩)) ∧ w'.cell? ⟨w3.heap.size, 0, none⟩ = some (.pointer (some ⟨bb, 0, none⟩)) ∧ w'.cell? ⟨w4.heap.size, 0, none⟩ = some (.pointer (some ⟨bc, 0, none⟩))) (first | exact ⟨D0.out, u0, u1, u2⟩ | exact HK12.out | exact HK13.out) (first | (go_at_call 12; have h0 := ‹Below w5.heap.size w5 _ ∧ _›; first | (have c0 := A12.out _ h0.1; (with_reducible refine c0.mono ?_); clear c0; rintro e w12 ⟨rfl, hb⟩; have HK12 : Hid (Below w5.heap.size w5 w12 ∧ w12.cell? ⟨w2.heap.size, 0, none⟩ = some (.pointer (some ⟨ba, 0, none⟩)) ∧ w12.cell? ⟨w3.heap.size, 0, none⟩ = some (.pointer (some ⟨bb, 0, none⟩)) ∧ w12.cell? ⟨w4.heap.size, 0, none⟩ = some (.pointer (some ⟨bc, 0, none⟩))) := ⟨h0.1.trans (hb.mono h0.1.size), (hb.cell (p := ⟨w2.heap.size, 0, none⟩) (Nat.lt_of_lt_of_le l0 h0.1.size)).trans h0.2.1, (hb.cell (p := ⟨w3.heap.size, 0, none⟩) (Nat.lt_of_lt_of_le l1 h0.1.size)).trans h0.2.2.1, (hb.cell (p := ⟨w4.heap.size, 0, none⟩) (Nat.lt_of_lt_of_le l2 h0.1.size)).trans h0.2.2.2⟩; clear h0 hb) | (have c0 := B12.out _ h0.1; (with_reducible refine c0.mono ?_); clear c0; rintro e w12 ⟨rfl, hb⟩; have HK12 : Hid (Below w5.heap.size w5 w12 ∧ w12.cell? ⟨w2.heap.size, 0, none⟩ = some (.pointer (some ⟨ba, 0, none⟩)) ∧ w12.cell? ⟨w3.heap.size, 0, none⟩ = some (.pointer (some ⟨bb, 0, none⟩)) ∧ w12.cell? ⟨w4.heap.size, 0, none⟩ = some (.pointer (some ⟨bc, 0, none⟩))) := ⟨h0.1.trans (hb.mono h0.1.size), (hb.cell (p := ⟨w2.heap.size, 0, none⟩) (Nat.lt_of_lt_of_le l0 h0.1.size)).trans h0.2.1, (hb.cell (p := ⟨w3.heap.size, 0, none⟩) (Nat.lt_of_lt_of_le l1 h0.1.size)).trans h0.2.2.1, (hb.cell (p := ⟨w4.heap.size, 0, none⟩) (Nat.lt_of_lt_of_le l2 h0.1.size)).trans h0.2.2.2⟩; clear h0 hb) | (have c0 := C12.out _ h0.1; (with_reducible refine c0.mono ?_); clear c0; rintro e w12 ⟨rfl, hb⟩; have HK12 : Hid (Below w5.heap.size w5 w12 ∧ w12.cell? ⟨w2.heap.size, 0, none⟩ = some (.pointer (some ⟨ba, 0, none⟩)) ∧ w12.cell? ⟨w3.heap.size, 0, none⟩ = some (.pointer (some ⟨bb, 0, none⟩)) ∧ w12.cell? ⟨w4.heap.size, 0, none⟩ = some (.pointer (some ⟨bc, 0, none⟩))) := ⟨h0.1.trans (hb.mono h0.1.size), (hb.cell (p := ⟨w2.heap.size, 0, none⟩) (Nat.lt_of_lt_of_le l0 h0.1.size)).trans h0.2.1, (hb.cell (p := ⟨w3.heap.size, 0, none⟩) (Nat.lt_of_lt_of_le l1 h0.1.size)).trans h0.2.2.1, (hb.cell (p := ⟨w4.heap.size, 0, none⟩) (Nat.lt_of_lt_of_le l2 h0.1.size)).trans h0.2.2.2⟩; clear h0 hb)) | (go_at_call 13; have h0 := ‹Below w5.heap.size w5 _ ∧ _›; first | (have c0 := A13.out _ h0.1; (with_reducible refine c0.mono ?_); clear c0; rintro e w13 ⟨rfl, hb⟩; have HK13 : Hid (Below w5.heap.size w5 w13 ∧ w13.cell? ⟨w2.heap.size, 0, none⟩ = some (.pointer (some ⟨ba, 0, none⟩)) ∧ w13.cell? ⟨w3.heap.size, 0, none⟩ = some (.pointer (some ⟨bb, 0, none⟩)) ∧ w13.cell? ⟨w4.heap.size, 0, none⟩ = some (.pointer (some ⟨bc, 0, none⟩))) := ⟨h0.1.trans (hb.mono h0.1.size), (hb.cell (p := ⟨w2.heap.size, 0, none⟩) (Nat.lt_of_lt_of_le l0 h0.1.size)).trans h0.2.1, (hb.cell (p := ⟨w3.heap.size, 0, none⟩) (Nat.lt_of_lt_of_le l1 h0.1.size)).trans h0.2.2.1, (hb.cell (p := ⟨w4.heap.size, 0, none⟩) (Nat.lt_of_lt_of_le l2 h0.1.size)).trans h0.2.2.2⟩; clear h0 hb) | (have c0 := B13.out _ h0.1; (with_reducible refine c0.mono ?_); clear c0; rintro e w13 ⟨rfl, hb⟩; have HK13 : Hid (Below w5.heap.size w5 w13 ∧ w13.cell? ⟨w2.heap.size, 0, none⟩ = some (.pointer (some ⟨ba, 0, none⟩)) ∧ w13.cell? ⟨w3.heap.size, 0, none⟩ = some (.pointer (some ⟨bb, 0, none⟩)) ∧ w13.cell? ⟨w4.heap.size, 0, none⟩ = some (.pointer (some ⟨bc, 0, none⟩))) := ⟨h0.1.trans (hb.mono h0.1.size), (hb.cell (p := ⟨w2.heap.size, 0, none⟩) (Nat.lt_of_lt_of_le l0 h0.1.size)).trans h0.2.1, (hb.cell (p := ⟨w3.heap.size, 0, none⟩) (Nat.lt_of_lt_of_le l1 h0.1.size)).trans h0.2.2.1, (hb.cell (p := ⟨w4.heap.size, 0, none⟩) (Nat.lt_of_lt_of_le l2 h0.1.size)).trans h0.2.2.2⟩; clear h0 hb) | (have c0 := C13.out _ h0.1; (with_reducible refine c0.mono ?_); clear c0; rintro e w13 ⟨rfl, hb⟩; have HK13 : Hid (Below w5.heap.size w5 w13 ∧ w13.cell? ⟨w2.heap.size, 0, none⟩ = some (.pointer (some ⟨ba, 0, none⟩)) ∧ w13.cell? ⟨w3.heap.size, 0, none⟩ = some (.pointer (some ⟨bb, 0, none⟩)) ∧ w13.cell? ⟨w4.heap.size, 0, none⟩ = some (.pointer (some ⟨bc, 0, none⟩))) := ⟨h0.1.trans (hb.mono h0.1.size), (hb.cell (p := ⟨w2.heap.size, 0, none⟩) (Nat.lt_of_lt_of_le l0 h0.1.size)).trans h0.2.1, (hb.cell (p := ⟨w3.heap.size, 0, none⟩) (Nat.lt_of_lt_of_le l1 h0.1.size)).trans h0.2.2.1, (hb.cell (p := ⟨w4.heap.size, 0, none⟩) (Nat.lt_of_lt_of_le l2 h0.1.size)).trans h0.2.2.2⟩; clear h0 hb)))
  all_goals
    have B5 := Lib.hid HK13.out.1
    clear HK13 HK12 A13 B13 C13 B12 D0 f1 f2 f3
    go_wp2_with fail
    go_loopw [14] (fun i wr => JoRel w5 (m1 + m2) i wr) (fun i _ => m1 + m2 - (intOf i).toNat)
    case atStart => exact ⟨0, Nat.zero_le _, rfl, B5⟩
    case round =>
      clear B5
      obtain ⟨k, hk, rfl, B⟩ := hrel
      have cz := (B.out.cell (p := ⟨w4.heap.size, 0, none⟩) l2).trans u2
      go_wp2_with fail
      clear cz
      refine (C12.out _ B.out).mono ?_
      rintro e w6 ⟨rfl, hb⟩
      have B6 := Lib.hid (B.out.trans (hb.mono B.out.size))
      clear hb B
      by_cases hlt : k < m1 + m2
      · have hki : (k : Int) < M3 := by have := HM.out; omega
        have x0 := (B6.out.cell (p := ⟨w2.heap.size, 0, none⟩) l0).trans u0
        have x1 := (B6.out.cell (p := ⟨w3.heap.size, 0, none⟩) l1).trans u1
        have x2 := (B6.out.cell (p := ⟨w4.heap.size, 0, none⟩) l2).trans u2
        have y0 := Nat.lt_of_lt_of_le l0 B6.out.size
        have y1 := Nat.lt_of_lt_of_le l1 B6.out.size
        have y2 := Nat.lt_of_lt_of_le l2 B6.out.size
        have D0 : Hid (Below w6.heap.size w6 w6.drew) := (Below.refl _ _).drew
        have E12 : Hid (∀ w', Below w6.heap.size w6 w' → Calls Tryz.prog 12 #[.agg #[.pointer (some ⟨ba, 0, none⟩)]] w' fun e w2 => e = .returned (.int .i64 (m1 : Int)) ∧ Below w'.heap.size w' w2) := fun w' hb => A12.out w' (B6.out.trans (hb.mono B6.out.size))
        by_cases h1 : k < m1
        · have h1i : decide ((k : Int) < (m1 : Int)) = true := by simp; omega
          have h1j : decide (m1 ≤ k) = false := by simp; omega
          have h1k : decide (k < m1) = true := by simp; omega
          obtain ⟨X', Y', ka', kb', ki'⟩ := K1.out k h1
          have KA : Hid (∀ w', Below w6.heap.size w6 w' → Calls Tryz.prog 21 #[.agg #[.pointer (some ⟨bc, 0, none⟩)], .int .i64 (k : Int)] w' fun e w2 => e = .returned (.agg #[.pointer X']) ∧ Below w'.heap.size w' w2) := fun w' hb => ka' w' (B6.out.trans (hb.mono B6.out.size))
          have KB : Hid (∀ w', Below w6.heap.size w6 w' → Calls Tryz.prog 21 #[.agg #[.pointer (some ⟨ba, 0, none⟩)], .int .i64 (k : Int)] w' fun e w2 => e = .returned (.agg #[.pointer Y']) ∧ Below w'.heap.size w' w2) := fun w' hb => kb' w' (B6.out.trans (hb.mono B6.out.size))
          have KI : Hid (∀ w', Below w6.heap.size w6 w' → Calls Tryz.prog 18 #[.agg #[.pointer X'], .agg #[.pointer Y']] w' fun e w2 => e = .returned (.bool true) ∧ Below w'.heap.size w' w2) := fun w' hb => ki' w' (B6.out.trans (hb.mono B6.out.size))
          clear ka' kb' ki'
          go_wp2_with fail
          refine wp_region_held_drew (S := (fun w' => Below w6.heap.size w6 w' ∧ w'.cell? ⟨w2.heap.size, 0, none⟩ = some (.pointer (some ⟨ba, 0, none⟩)) ∧ w'.cell? ⟨w3.heap.size, 0, none⟩ = some (.pointer (some ⟨bb, 0, none⟩)) ∧ w'.cell? ⟨w4.heap.size, 0, none⟩ = some (.pointer (some ⟨bc, 0, none⟩)))) (by kernel_rfl) (⟨D0.out, x0, x1, x2⟩) (fun hHeld => ?_)
          refine wpAnyH_take (i := 0) (oi := { dst := some 81, op := Op.move (Operand.tmp 14), type := 3, pos := "own.go:95", after := #[], guard := none }) (v := ?va0) rfl (by kernel_rfl) (by kernel_rfl) (by kernel_rfl) (fun _ _ _ h => h) (Or.inl ⟨by kernel_rfl, ?hya0⟩) (by assumption) ?resta0
          case hya0 => (intro w hSw; (try dsimp only at hSw); go_simp <;> with_reducible rfl)
          (try simp only [Act.put, List.setIfInBounds_toArray, List.set_cons_zero, List.set_cons_succ])
          refine wpAnyH_take (i := 1) (oi := { dst := some 82, op := Op.load 25 (Operand.tmp 5), type := 25, pos := "own.go:95", after := #[], guard := none }) (v := ?va1) rfl (by kernel_rfl) (by kernel_rfl) (by kernel_rfl) (fun _ _ _ h => h) (Or.inl ⟨by kernel_rfl, ?hya1⟩) (by assumption) ?resta1
          case hya1 => (intro w hSw; (try dsimp only at hSw); go_simp <;> with_reducible rfl)
          (try simp only [Act.put, List.setIfInBounds_toArray, List.set_cons_zero, List.set_cons_succ])
          refine wpAnyH_ready (rs := [2]) (by kernel_rfl) (by simp) (AllReadyH.cons (o := { dst := some 83, op := Op.call { callee := Callee.value (Operand.func 12), args := #[Operand.tmp 82], argTypes := #[25] }, type := 3, pos := "own.go:95", after := #[{ on := 1, ground := Ground.data }], guard := none }) rfl (fun K hK => ?_) AllReadyH.nil)
          go_simp
          (first | (go_at_call 12; have h0 := ‹Below w6.heap.size w6 _ ∧ _›; first | (have c0 := E12.out _ h0.1; (with_reducible refine c0.mono ?_); clear c0; rintro e w12 ⟨rfl, hb⟩; have HK12 : Hid (Below w6.heap.size w6 w12 ∧ w12.cell? ⟨w2.heap.size, 0, none⟩ = some (.pointer (some ⟨ba, 0, none⟩)) ∧ w12.cell? ⟨w3.heap.size, 0, none⟩ = some (.pointer (some ⟨bb, 0, none⟩)) ∧ w12.cell? ⟨w4.heap.size, 0, none⟩ = some (.pointer (some ⟨bc, 0, none⟩))) := ⟨h0.1.trans (hb.mono h0.1.size), (hb.cell (p := ⟨w2.heap.size, 0, none⟩) (Nat.lt_of_lt_of_le y0 h0.1.size)).trans h0.2.1, (hb.cell (p := ⟨w3.heap.size, 0, none⟩) (Nat.lt_of_lt_of_le y1 h0.1.size)).trans h0.2.2.1, (hb.cell (p := ⟨w4.heap.size, 0, none⟩) (Nat.lt_of_lt_of_le y2 h0.1.size)).trans h0.2.2.2⟩; clear h0 hb)) | (go_at_call 21; have h0 := ‹Below w6.heap.size w6 _ ∧ _›; first | (have c0 := KA.out _ h0.1; (with_reducible refine c0.mono ?_); clear c0; rintro e w21 ⟨rfl, hb⟩; have HK21 : Hid (Below w6.heap.size w6 w21 ∧ w21.cell? ⟨w2.heap.size, 0, none⟩ = some (.pointer (some ⟨ba, 0, none⟩)) ∧ w21.cell? ⟨w3.heap.size, 0, none⟩ = some (.pointer (some ⟨bb, 0, none⟩)) ∧ w21.cell? ⟨w4.heap.size, 0, none⟩ = some (.pointer (some ⟨bc, 0, none⟩))) := ⟨h0.1.trans (hb.mono h0.1.size), (hb.cell (p := ⟨w2.heap.size, 0, none⟩) (Nat.lt_of_lt_of_le y0 h0.1.size)).trans h0.2.1, (hb.cell (p := ⟨w3.heap.size, 0, none⟩) (Nat.lt_of_lt_of_le y1 h0.1.size)).trans h0.2.2.1, (hb.cell (p := ⟨w4.heap.size, 0, none⟩) (Nat.lt_of_lt_of_le y2 h0.1.size)).trans h0.2.2.2⟩; clear h0 hb) | (have c0 := KB.out _ h0.1; (with_reducible refine c0.mono ?_); clear c0; rintro e w21 ⟨rfl, hb⟩; have HK21 : Hid (Below w6.heap.size w6 w21 ∧ w21.cell? ⟨w2.heap.size, 0, none⟩ = some (.pointer (some ⟨ba, 0, none⟩)) ∧ w21.cell? ⟨w3.heap.size, 0, none⟩ = some (.pointer (some ⟨bb, 0, none⟩)) ∧ w21.cell? ⟨w4.heap.size, 0, none⟩ = some (.pointer (some ⟨bc, 0, none⟩))) := ⟨h0.1.trans (hb.mono h0.1.size), (hb.cell (p := ⟨w2.heap.size, 0, none⟩) (Nat.lt_of_lt_of_le y0 h0.1.size)).trans h0.2.1, (hb.cell (p := ⟨w3.heap.size, 0, none⟩) (Nat.lt_of_lt_of_le y1 h0.1.size)).trans h0.2.2.1, (hb.cell (p := ⟨w4.heap.size, 0, none⟩) (Nat.lt_of_lt_of_le y2 h0.1.size)).trans h0.2.2.2⟩; clear h0 hb)) | (go_at_call 18; have h0 := ‹Below w6.heap.size w6 _ ∧ _›; first | (have c0 := KI.out _ h0.1; (with_reducible refine c0.mono ?_); clear c0; rintro e w18 ⟨rfl, hb⟩; have HK18 : Hid (Below w6.heap.size w6 w18 ∧ w18.cell? ⟨w2.heap.size, 0, none⟩ = some (.pointer (some ⟨ba, 0, none⟩)) ∧ w18.cell? ⟨w3.heap.size, 0, none⟩ = some (.pointer (some ⟨bb, 0, none⟩)) ∧ w18.cell? ⟨w4.heap.size, 0, none⟩ = some (.pointer (some ⟨bc, 0, none⟩))) := ⟨h0.1.trans (hb.mono h0.1.size), (hb.cell (p := ⟨w2.heap.size, 0, none⟩) (Nat.lt_of_lt_of_le y0 h0.1.size)).trans h0.2.1, (hb.cell (p := ⟨w3.heap.size, 0, none⟩) (Nat.lt_of_lt_of_le y1 h0.1.size)).trans h0.2.2.1, (hb.cell (p := ⟨w4.heap.size, 0, none⟩) (Nat.lt_of_lt_of_le y2 h0.1.size)).trans h0.2.2.2⟩; clear h0 hb)))
          refine hK.out _ _ (by first | exact HK12.out | exact HK21.out | exact HK18.out) (fun hHeld => ?_)
          clear hK K
          (try simp only [Act.put, List.setIfInBounds_toArray, List.set_cons_zero, List.set_cons_succ])
          refine wpAnyH_take (i := 3) (oi := { dst := some 84, op := Op.binOp BinOp.lss 3 (Operand.tmp 81) (Operand.tmp 83) 3, type := 4, pos := "own.go:95", after := #[{ on := 0, ground := Ground.data }, { on := 2, ground := Ground.data }], guard := none }) (v := ?va3) rfl (by kernel_rfl) (by kernel_rfl) (by kernel_rfl) (fun _ _ _ h => h) (Or.inl ⟨by kernel_rfl, ?hya3⟩) (by assumption) ?resta3
          case hya3 => (intro w hSw; (try dsimp only at hSw); go_simp <;> with_reducible rfl)
          (try simp only [Act.put, List.setIfInBounds_toArray, List.set_cons_zero, List.set_cons_succ])
          refine wpAnyH_take (i := 4) (oi := { dst := some 85, op := Op.move (Operand.tmp 84), type := 4, pos := "own.go:95", after := #[{ on := 3, ground := Ground.data }, { on := 2, ground := Ground.chain }], guard := none }) (v := ?va4) rfl (by kernel_rfl) (by kernel_rfl) (by kernel_rfl) (fun _ _ _ h => h) (Or.inl ⟨by kernel_rfl, ?hya4⟩) (by assumption) ?resta4
          case hya4 => (intro w hSw; (try dsimp only at hSw); go_simp <;> with_reducible rfl)
          (try simp only [Act.put, List.setIfInBounds_toArray, List.set_cons_zero, List.set_cons_succ])
          refine wpAnyH_take (i := 5) (oi := { dst := some 86, op := Op.load 25 (Operand.tmp 11), type := 25, pos := "own.go:95", after := #[{ on := 4, ground := Ground.guard }], guard := some (4, true) }) (v := ?va5) rfl (by kernel_rfl) (by kernel_rfl) (by kernel_rfl) (fun _ _ _ h => h) (Or.inl ⟨by kernel_rfl, ?hya5⟩) (by assumption) ?resta5
          case hya5 => (intro w hSw; (try dsimp only at hSw); go_simp <;> with_reducible rfl)
          (try simp only [Act.put, List.setIfInBounds_toArray, List.set_cons_zero, List.set_cons_succ])
          refine wpAnyH_take (i := 6) (oi := { dst := some 87, op := Op.move (Operand.tmp 14), type := 3, pos := "own.go:95", after := #[{ on := 4, ground := Ground.guard }], guard := some (4, true) }) (v := ?va6) rfl (by kernel_rfl) (by kernel_rfl) (by kernel_rfl) (fun _ _ _ h => h) (Or.inl ⟨by kernel_rfl, ?hya6⟩) (by assumption) ?resta6
          case hya6 => (intro w hSw; (try dsimp only at hSw); go_simp <;> with_reducible rfl)
          (try simp only [Act.put, List.setIfInBounds_toArray, List.set_cons_zero, List.set_cons_succ])
          refine wpAnyH_take (i := 8) (oi := { dst := some 89, op := Op.load 25 (Operand.tmp 5), type := 25, pos := "own.go:95", after := #[{ on := 4, ground := Ground.guard }], guard := some (4, true) }) (v := ?va8) rfl (by kernel_rfl) (by kernel_rfl) (by kernel_rfl) (fun _ _ _ h => h) (Or.inl ⟨by kernel_rfl, ?hya8⟩) (by assumption) ?resta8
          case hya8 => (intro w hSw; (try dsimp only at hSw); go_simp <;> with_reducible rfl)
          (try simp only [Act.put, List.setIfInBounds_toArray, List.set_cons_zero, List.set_cons_succ])
          refine wpAnyH_take (i := 9) (oi := { dst := some 90, op := Op.move (Operand.tmp 14), type := 3, pos := "own.go:95", after := #[{ on := 4, ground := Ground.guard }], guard := some (4, true) }) (v := ?va9) rfl (by kernel_rfl) (by kernel_rfl) (by kernel_rfl) (fun _ _ _ h => h) (Or.inl ⟨by kernel_rfl, ?hya9⟩) (by assumption) ?resta9
          case hya9 => (intro w hSw; (try dsimp only at hSw); go_simp <;> with_reducible rfl)
          (try simp only [Act.put, List.setIfInBounds_toArray, List.set_cons_zero, List.set_cons_succ])
          refine wpAnyH_ready (rs := [7]) (by kernel_rfl) (by simp) (AllReadyH.cons (o := { dst := some 88, op := Op.call { callee := Callee.value (Operand.func 21), args := #[Operand.tmp 86, Operand.tmp 87], argTypes := #[25, 3] }, type := 25, pos := "own.go:95", after := #[{ on := 5, ground := Ground.data }, { on := 6, ground := Ground.data }, { on := 4, ground := Ground.chain }, { on := 4, ground := Ground.guard }], guard := some (4, true) }) rfl (fun K hK => ?_) AllReadyH.nil)
          go_simp
          (first | (go_at_call 12; have h0 := ‹Below w6.heap.size w6 _ ∧ _›; first | (have c0 := E12.out _ h0.1; (with_reducible refine c0.mono ?_); clear c0; rintro e w12 ⟨rfl, hb⟩; have HK12 : Hid (Below w6.heap.size w6 w12 ∧ w12.cell? ⟨w2.heap.size, 0, none⟩ = some (.pointer (some ⟨ba, 0, none⟩)) ∧ w12.cell? ⟨w3.heap.size, 0, none⟩ = some (.pointer (some ⟨bb, 0, none⟩)) ∧ w12.cell? ⟨w4.heap.size, 0, none⟩ = some (.pointer (some ⟨bc, 0, none⟩))) := ⟨h0.1.trans (hb.mono h0.1.size), (hb.cell (p := ⟨w2.heap.size, 0, none⟩) (Nat.lt_of_lt_of_le y0 h0.1.size)).trans h0.2.1, (hb.cell (p := ⟨w3.heap.size, 0, none⟩) (Nat.lt_of_lt_of_le y1 h0.1.size)).trans h0.2.2.1, (hb.cell (p := ⟨w4.heap.size, 0, none⟩) (Nat.lt_of_lt_of_le y2 h0.1.size)).trans h0.2.2.2⟩; clear h0 hb)) | (go_at_call 21; have h0 := ‹Below w6.heap.size w6 _ ∧ _›; first | (have c0 := KA.out _ h0.1; (with_reducible refine c0.mono ?_); clear c0; rintro e w21 ⟨rfl, hb⟩; have HK21 : Hid (Below w6.heap.size w6 w21 ∧ w21.cell? ⟨w2.heap.size, 0, none⟩ = some (.pointer (some ⟨ba, 0, none⟩)) ∧ w21.cell? ⟨w3.heap.size, 0, none⟩ = some (.pointer (some ⟨bb, 0, none⟩)) ∧ w21.cell? ⟨w4.heap.size, 0, none⟩ = some (.pointer (some ⟨bc, 0, none⟩))) := ⟨h0.1.trans (hb.mono h0.1.size), (hb.cell (p := ⟨w2.heap.size, 0, none⟩) (Nat.lt_of_lt_of_le y0 h0.1.size)).trans h0.2.1, (hb.cell (p := ⟨w3.heap.size, 0, none⟩) (Nat.lt_of_lt_of_le y1 h0.1.size)).trans h0.2.2.1, (hb.cell (p := ⟨w4.heap.size, 0, none⟩) (Nat.lt_of_lt_of_le y2 h0.1.size)).trans h0.2.2.2⟩; clear h0 hb) | (have c0 := KB.out _ h0.1; (with_reducible refine c0.mono ?_); clear c0; rintro e w21 ⟨rfl, hb⟩; have HK21 : Hid (Below w6.heap.size w6 w21 ∧ w21.cell? ⟨w2.heap.size, 0, none⟩ = some (.pointer (some ⟨ba, 0, none⟩)) ∧ w21.cell? ⟨w3.heap.size, 0, none⟩ = some (.pointer (some ⟨bb, 0, none⟩)) ∧ w21.cell? ⟨w4.heap.size, 0, none⟩ = some (.pointer (some ⟨bc, 0, none⟩))) := ⟨h0.1.trans (hb.mono h0.1.size), (hb.cell (p := ⟨w2.heap.size, 0, none⟩) (Nat.lt_of_lt_of_le y0 h0.1.size)).trans h0.2.1, (hb.cell (p := ⟨w3.heap.size, 0, none⟩) (Nat.lt_of_lt_of_le y1 h0.1.size)).trans h0.2.2.1, (hb.cell (p := ⟨w4.heap.size, 0, none⟩) (Nat.lt_of_lt_of_le y2 h0.1.size)).trans h0.2.2.2⟩; clear h0 hb)) | (go_at_call 18; have h0 := ‹Below w6.heap.size w6 _ ∧ _›; first | (have c0 := KI.out _ h0.1; (with_reducible refine c0.mono ?_); clear c0; rintro e w18 ⟨rfl, hb⟩; have HK18 : Hid (Below w6.heap.size w6 w18 ∧ w18.cell? ⟨w2.heap.size, 0, none⟩ = some (.pointer (some ⟨ba, 0, none⟩)) ∧ w18.cell? ⟨w3.heap.size, 0, none⟩ = some (.pointer (some ⟨bb, 0, none⟩)) ∧ w18.cell? ⟨w4.heap.size, 0, none⟩ = some (.pointer (some ⟨bc, 0, none⟩))) := ⟨h0.1.trans (hb.mono h0.1.size), (hb.cell (p := ⟨w2.heap.size, 0, none⟩) (Nat.lt_of_lt_of_le y0 h0.1.size)).trans h0.2.1, (hb.cell (p := ⟨w3.heap.size, 0, none⟩) (Nat.lt_of_lt_of_le y1 h0.1.size)).trans h0.2.2.1, (hb.cell (p := ⟨w4.heap.size, 0, none⟩) (Nat.lt_of_lt_of_le y2 h0.1.size)).trans h0.2.2.2⟩; clear h0 hb)))
          refine hK.out _ _ (by first | exact HK12.out | exact HK21.out | exact HK18.out) (fun hHeld => ?_)
          clear hK K
          (try simp only [Act.put, List.setIfInBounds_toArray, List.set_cons_zero, List.set_cons_succ])
          refine wpAnyH_ready (rs := [10]) (by kernel_rfl) (by simp) (AllReadyH.cons (o := { dst := some 91, op := Op.call { callee := Callee.value (Operand.func 21), args := #[Operand.tmp 89, Operand.tmp 90], argTypes := #[25, 3] }, type := 25, pos := "own.go:95", after := #[{ on := 8, ground := Ground.data }, { on := 9, ground := Ground.data }, { on := 7, ground := Ground.chain }, { on := 4, ground := Ground.guard }], guard := some (4, true) }) rfl (fun K hK => ?_) AllReadyH.nil)
          go_simp
          (first | (go_at_call 12; have h0 := ‹Below w6.heap.size w6 _ ∧ _›; first | (have c0 := E12.out _ h0.1; (with_reducible refine c0.mono ?_); clear c0; rintro e w12 ⟨rfl, hb⟩; have HK12 : Hid (Below w6.heap.size w6 w12 ∧ w12.cell? ⟨w2.heap.size, 0, none⟩ = some (.pointer (some ⟨ba, 0, none⟩)) ∧ w12.cell? ⟨w3.heap.size, 0, none⟩ = some (.pointer (some ⟨bb, 0, none⟩)) ∧ w12.cell? ⟨w4.heap.size, 0, none⟩ = some (.pointer (some ⟨bc, 0, none⟩))) := ⟨h0.1.trans (hb.mono h0.1.size), (hb.cell (p := ⟨w2.heap.size, 0, none⟩) (Nat.lt_of_lt_of_le y0 h0.1.size)).trans h0.2.1, (hb.cell (p := ⟨w3.heap.size, 0, none⟩) (Nat.lt_of_lt_of_le y1 h0.1.size)).trans h0.2.2.1, (hb.cell (p := ⟨w4.heap.size, 0, none⟩) (Nat.lt_of_lt_of_le y2 h0.1.size)).trans h0.2.2.2⟩; clear h0 hb)) | (go_at_call 21; have h0 := ‹Below w6.heap.size w6 _ ∧ _›; first | (have c0 := KA.out _ h0.1; (with_reducible refine c0.mono ?_); clear c0; rintro e w21 ⟨rfl, hb⟩; have HK21 : Hid (Below w6.heap.size w6 w21 ∧ w21.cell? ⟨w2.heap.size, 0, none⟩ = some (.pointer (some ⟨ba, 0, none⟩)) ∧ w21.cell? ⟨w3.heap.size, 0, none⟩ = some (.pointer (some ⟨bb, 0, none⟩)) ∧ w21.cell? ⟨w4.heap.size, 0, none⟩ = some (.pointer (some ⟨bc, 0, none⟩))) := ⟨h0.1.trans (hb.mono h0.1.size), (hb.cell (p := ⟨w2.heap.size, 0, none⟩) (Nat.lt_of_lt_of_le y0 h0.1.size)).trans h0.2.1, (hb.cell (p := ⟨w3.heap.size, 0, none⟩) (Nat.lt_of_lt_of_le y1 h0.1.size)).trans h0.2.2.1, (hb.cell (p := ⟨w4.heap.size, 0, none⟩) (Nat.lt_of_lt_of_le y2 h0.1.size)).trans h0.2.2.2⟩; clear h0 hb) | (have c0 := KB.out _ h0.1; (with_reducible refine c0.mono ?_); clear c0; rintro e w21 ⟨rfl, hb⟩; have HK21 : Hid (Below w6.heap.size w6 w21 ∧ w21.cell? ⟨w2.heap.size, 0, none⟩ = some (.pointer (some ⟨ba, 0, none⟩)) ∧ w21.cell? ⟨w3.heap.size, 0, none⟩ = some (.pointer (some ⟨bb, 0, none⟩)) ∧ w21.cell? ⟨w4.heap.size, 0, none⟩ = some (.pointer (some ⟨bc, 0, none⟩))) := ⟨h0.1.trans (hb.mono h0.1.size), (hb.cell (p := ⟨w2.heap.size, 0, none⟩) (Nat.lt_of_lt_of_le y0 h0.1.size)).trans h0.2.1, (hb.cell (p := ⟨w3.heap.size, 0, none⟩) (Nat.lt_of_lt_of_le y1 h0.1.size)).trans h0.2.2.1, (hb.cell (p := ⟨w4.heap.size, 0, none⟩) (Nat.lt_of_lt_of_le y2 h0.1.size)).trans h0.2.2.2⟩; clear h0 hb)) | (go_at_call 18; have h0 := ‹Below w6.heap.size w6 _ ∧ _›; first | (have c0 := KI.out _ h0.1; (with_reducible refine c0.mono ?_); clear c0; rintro e w18 ⟨rfl, hb⟩; have HK18 : Hid (Below w6.heap.size w6 w18 ∧ w18.cell? ⟨w2.heap.size, 0, none⟩ = some (.pointer (some ⟨ba, 0, none⟩)) ∧ w18.cell? ⟨w3.heap.size, 0, none⟩ = some (.pointer (some ⟨bb, 0, none⟩)) ∧ w18.cell? ⟨w4.heap.size, 0, none⟩ = some (.pointer (some ⟨bc, 0, none⟩))) := ⟨h0.1.trans (hb.mono h0.1.size), (hb.cell (p := ⟨w2.heap.size, 0, none⟩) (Nat.lt_of_lt_of_le y0 h0.1.size)).trans h0.2.1, (hb.cell (p := ⟨w3.heap.size, 0, none⟩) (Nat.lt_of_lt_of_le y1 h0.1.size)).trans h0.2.2.1, (hb.cell (p := ⟨w4.heap.size, 0, none⟩) (Nat.lt_of_lt_of_le y2 h0.1.size)).trans h0.2.2.2⟩; clear h0 hb)))
          refine hK.out _ _ (by first | exact HK12.out | exact HK21.out | exact HK18.out) (fun hHeld => ?_)
          clear hK K
          (try simp only [Act.put, List.setIfInBounds_toArray, List.set_cons_zero, List.set_cons_succ])
          refine wpAnyH_ready (rs := [11]) (by kernel_rfl) (by simp) (AllReadyH.cons (o := { dst := some 92, op := Op.call { callee := Callee.value (Operand.func 18), args := #[Operand.tmp 88, Operand.tmp 91], argTypes := #[25, 25] }, type := 4, pos := "own.go:95", after := #[{ on := 7, ground := Ground.data }, { on := 10, ground := Ground.data }, { on := 10, ground := Ground.chain }, { on := 4, ground := Ground.guard }], guard := some (4, true) }) rfl (fun K hK => ?_) AllReadyH.nil)
          go_simp
          (first | (go_at_call 12; have h0 := ‹Below w6.heap.size w6 _ ∧ _›; first | (have c0 := E12.out _ h0.1; (with_reducible refine c0.mono ?_); clear c0; rintro e w12 ⟨rfl, hb⟩; have HK12 : Hid (Below w6.heap.size w6 w12 ∧ w12.cell? ⟨w2.heap.size, 0, none⟩ = some (.pointer (some ⟨ba, 0, none⟩)) ∧ w12.cell? ⟨w3.heap.size, 0, none⟩ = some (.pointer (some ⟨bb, 0, none⟩)) ∧ w12.cell? ⟨w4.heap.size, 0, none⟩ = some (.pointer (some ⟨bc, 0, none⟩))) := ⟨h0.1.trans (hb.mono h0.1.size), (hb.cell (p := ⟨w2.heap.size, 0, none⟩) (Nat.lt_of_lt_of_le y0 h0.1.size)).trans h0.2.1, (hb.cell (p := ⟨w3.heap.size, 0, none⟩) (Nat.lt_of_lt_of_le y1 h0.1.size)).trans h0.2.2.1, (hb.cell (p := ⟨w4.heap.size, 0, none⟩) (Nat.lt_of_lt_of_le y2 h0.1.size)).trans h0.2.2.2⟩; clear h0 hb)) | (go_at_call 21; have h0 := ‹Below w6.heap.size w6 _ ∧ _›; first | (have c0 := KA.out _ h0.1; (with_reducible refine c0.mono ?_); clear c0; rintro e w21 ⟨rfl, hb⟩; have HK21 : Hid (Below w6.heap.size w6 w21 ∧ w21.cell? ⟨w2.heap.size, 0, none⟩ = some (.pointer (some ⟨ba, 0, none⟩)) ∧ w21.cell? ⟨w3.heap.size, 0, none⟩ = some (.pointer (some ⟨bb, 0, none⟩)) ∧ w21.cell? ⟨w4.heap.size, 0, none⟩ = some (.pointer (some ⟨bc, 0, none⟩))) := ⟨h0.1.trans (hb.mono h0.1.size), (hb.cell (p := ⟨w2.heap.size, 0, none⟩) (Nat.lt_of_lt_of_le y0 h0.1.size)).trans h0.2.1, (hb.cell (p := ⟨w3.heap.size, 0, none⟩) (Nat.lt_of_lt_of_le y1 h0.1.size)).trans h0.2.2.1, (hb.cell (p := ⟨w4.heap.size, 0, none⟩) (Nat.lt_of_lt_of_le y2 h0.1.size)).trans h0.2.2.2⟩; clear h0 hb) | (have c0 := KB.out _ h0.1; (with_reducible refine c0.mono ?_); clear c0; rintro e w21 ⟨rfl, hb⟩; have HK21 : Hid (Below w6.heap.size w6 w21 ∧ w21.cell? ⟨w2.heap.size, 0, none⟩ = some (.pointer (some ⟨ba, 0, none⟩)) ∧ w21.cell? ⟨w3.heap.size, 0, none⟩ = some (.pointer (some ⟨bb, 0, none⟩)) ∧ w21.cell? ⟨w4.heap.size, 0, none⟩ = some (.pointer (some ⟨bc, 0, none⟩))) := ⟨h0.1.trans (hb.mono h0.1.size), (hb.cell (p := ⟨w2.heap.size, 0, none⟩) (Nat.lt_of_lt_of_le y0 h0.1.size)).trans h0.2.1, (hb.cell (p := ⟨w3.heap.size, 0, none⟩) (Nat.lt_of_lt_of_le y1 h0.1.size)).trans h0.2.2.1, (hb.cell (p := ⟨w4.heap.size, 0, none⟩) (Nat.lt_of_lt_of_le y2 h0.1.size)).trans h0.2.2.2⟩; clear h0 hb)) | (go_at_call 18; have h0 := ‹Below w6.heap.size w6 _ ∧ _›; first | (have c0 := KI.out _ h0.1; (with_reducible refine c0.mono ?_); clear c0; rintro e w18 ⟨rfl, hb⟩; have HK18 : Hid (Below w6.heap.size w6 w18 ∧ w18.cell? ⟨w2.heap.size, 0, none⟩ = some (.pointer (some ⟨ba, 0, none⟩)) ∧ w18.cell? ⟨w3.heap.size, 0, none⟩ = some (.pointer (some ⟨bb, 0, none⟩)) ∧ w18.cell? ⟨w4.heap.size, 0, none⟩ = some (.pointer (some ⟨bc, 0, none⟩))) := ⟨h0.1.trans (hb.mono h0.1.size), (hb.cell (p := ⟨w2.heap.size, 0, none⟩) (Nat.lt_of_lt_of_le y0 h0.1.size)).trans h0.2.1, (hb.cell (p := ⟨w3.heap.size, 0, none⟩) (Nat.lt_of_lt_of_le y1 h0.1.size)).trans h0.2.2.1, (hb.cell (p := ⟨w4.heap.size, 0, none⟩) (Nat.lt_of_lt_of_le y2 h0.1.size)).trans h0.2.2.2⟩; clear h0 hb)))
          refine hK.out _ _ (by first | exact HK12.out | exact HK21.out | exact HK18.out) (fun hHeld => ?_)
          clear hK K
          (try simp only [Act.put, List.setIfInBounds_toArray, List.set_cons_zero, List.set_cons_succ])
          refine wpAnyH_take (i := 12) (oi := { dst := some 93, op := Op.unOp UnOp.not 4 (Operand.tmp 92), type := 4, pos := "own.go:95", after := #[{ on := 11, ground := Ground.data }, { on := 4, ground := Ground.guard }], guard := some (4, true) }) (v := ?va12) rfl (by kernel_rfl) (by kernel_rfl) (by kernel_rfl) (fun _ _ _ h => h) (Or.inl ⟨by kernel_rfl, ?hya12⟩) (by assumption) ?resta12
          case hya12 => (intro w hSw; (try dsimp only at hSw); go_simp <;> with_reducible rfl)
          (try simp only [Act.put, List.setIfInBounds_toArray, List.set_cons_zero, List.set_cons_succ])
          refine wpAnyH_take (i := 13) (oi := { dst := some 94, op := Op.pick (Operand.tmp 85) (Operand.tmp 93) (Operand.const (Value.bool false)), type := 4, pos := "own.go:95", after := #[{ on := 4, ground := Ground.data }, { on := 12, ground := Ground.data }], guard := none }) (v := ?va13) rfl (by kernel_rfl) (by kernel_rfl) (by kernel_rfl) (fun _ _ _ h => h) (Or.inl ⟨by kernel_rfl, ?hya13⟩) (by assumption) ?resta13
          case hya13 => (intro w hSw; (try dsimp only at hSw); go_simp <;> with_reducible rfl)
          (try simp only [Act.put, List.setIfInBounds_toArray, List.set_cons_zero, List.set_cons_succ])
          refine wpAnyH_take (i := 14) (oi := { dst := some 95, op := Op.move (Operand.tmp 94), type := 4, pos := "own.go:95", after := #[{ on := 13, ground := Ground.data }, { on := 11, ground := Ground.chain }], guard := none }) (v := ?va14) rfl (by kernel_rfl) (by kernel_rfl) (by kernel_rfl) (fun _ _ _ h => h) (Or.inl ⟨by kernel_rfl, ?hya14⟩) (by assumption) ?resta14
          case hya14 => (intro w hSw; (try dsimp only at hSw); go_simp <;> with_reducible rfl)
          (try simp only [Act.put, List.setIfInBounds_toArray, List.set_cons_zero, List.set_cons_succ])
          refine wpAnyH_take (i := 15) (oi := { dst := some 96, op := Op.move (Operand.tmp 14), type := 3, pos := "own.go:95", after := #[{ on := 14, ground := Ground.guard }], guard := some (14, false) }) (v := ?va15) rfl (by kernel_rfl) (by kernel_rfl) (by kernel_rfl) (fun _ _ _ h => h) (Or.inl ⟨by kernel_rfl, ?hya15⟩) (by assumption) ?resta15
          case hya15 => (intro w hSw; (try dsimp only at hSw); go_simp <;> with_reducible rfl)
          (try simp only [Act.put, List.setIfInBounds_toArray, List.set_cons_zero, List.set_cons_succ])
          refine wpAnyH_take (i := 16) (oi := { dst := some 97, op := Op.load 25 (Operand.tmp 5), type := 25, pos := "own.go:95", after := #[{ on := 14, ground := Ground.guard }], guard := some (14, false) }) (v := ?va16) rfl (by kernel_rfl) (by kernel_rfl) (by kernel_rfl) (fun _ _ _ h => h) (Or.inl ⟨by kernel_rfl, ?hya16⟩) (by assumption) ?resta16
          case hya16 => (intro w hSw; (try dsimp only at hSw); go_simp <;> with_reducible rfl)
          (try simp only [Act.put, List.setIfInBounds_toArray, List.set_cons_zero, List.set_cons_succ])
          refine wpAnyH_ready (rs := [17]) (by kernel_rfl) (by simp) (AllReadyH.cons (o := { dst := some 98, op := Op.call { callee := Callee.value (Operand.func 12), args := #[Operand.tmp 97], argTypes := #[25] }, type := 3, pos := "own.go:95", after := #[{ on := 16, ground := Ground.data }, { on := 14, ground := Ground.chain }, { on := 14, ground := Ground.guard }], guard := some (14, false) }) rfl (fun K hK => ?_) AllReadyH.nil)
          go_simp
          (first | (go_at_call 12; have h0 := ‹Below w6.heap.size w6 _ ∧ _›; first | (have c0 := E12.out _ h0.1; (with_reducible refine c0.mono ?_); clear c0; rintro e w12 ⟨rfl, hb⟩; have HK12 : Hid (Below w6.heap.size w6 w12 ∧ w12.cell? ⟨w2.heap.size, 0, none⟩ = some (.pointer (some ⟨ba, 0, none⟩)) ∧ w12.cell? ⟨w3.heap.size, 0, none⟩ = some (.pointer (some ⟨bb, 0, none⟩)) ∧ w12.cell? ⟨w4.heap.size, 0, none⟩ = some (.pointer (some ⟨bc, 0, none⟩))) := ⟨h0.1.trans (hb.mono h0.1.size), (hb.cell (p := ⟨w2.heap.size, 0, none⟩) (Nat.lt_of_lt_of_le y0 h0.1.size)).trans h0.2.1, (hb.cell (p := ⟨w3.heap.size, 0, none⟩) (Nat.lt_of_lt_of_le y1 h0.1.size)).trans h0.2.2.1, (hb.cell (p := ⟨w4.heap.size, 0, none⟩) (Nat.lt_of_lt_of_le y2 h0.1.size)).trans h0.2.2.2⟩; clear h0 hb)) | (go_at_call 21; have h0 := ‹Below w6.heap.size w6 _ ∧ _›; first | (have c0 := KA.out _ h0.1; (with_reducible refine c0.mono ?_); clear c0; rintro e w21 ⟨rfl, hb⟩; have HK21 : Hid (Below w6.heap.size w6 w21 ∧ w21.cell? ⟨w2.heap.size, 0, none⟩ = some (.pointer (some ⟨ba, 0, none⟩)) ∧ w21.cell? ⟨w3.heap.size, 0, none⟩ = some (.pointer (some ⟨bb, 0, none⟩)) ∧ w21.cell? ⟨w4.heap.size, 0, none⟩ = some (.pointer (some ⟨bc, 0, none⟩))) := ⟨h0.1.trans (hb.mono h0.1.size), (hb.cell (p := ⟨w2.heap.size, 0, none⟩) (Nat.lt_of_lt_of_le y0 h0.1.size)).trans h0.2.1, (hb.cell (p := ⟨w3.heap.size, 0, none⟩) (Nat.lt_of_lt_of_le y1 h0.1.size)).trans h0.2.2.1, (hb.cell (p := ⟨w4.heap.size, 0, none⟩) (Nat.lt_of_lt_of_le y2 h0.1.size)).trans h0.2.2.2⟩; clear h0 hb) | (have c0 := KB.out _ h0.1; (with_reducible refine c0.mono ?_); clear c0; rintro e w21 ⟨rfl, hb⟩; have HK21 : Hid (Below w6.heap.size w6 w21 ∧ w21.cell? ⟨w2.heap.size, 0, none⟩ = some (.pointer (some ⟨ba, 0, none⟩)) ∧ w21.cell? ⟨w3.heap.size, 0, none⟩ = some (.pointer (some ⟨bb, 0, none⟩)) ∧ w21.cell? ⟨w4.heap.size, 0, none⟩ = some (.pointer (some ⟨bc, 0, none⟩))) := ⟨h0.1.trans (hb.mono h0.1.size), (hb.cell (p := ⟨w2.heap.size, 0, none⟩) (Nat.lt_of_lt_of_le y0 h0.1.size)).trans h0.2.1, (hb.cell (p := ⟨w3.heap.size, 0, none⟩) (Nat.lt_of_lt_of_le y1 h0.1.size)).trans h0.2.2.1, (hb.cell (p := ⟨w4.heap.size, 0, none⟩) (Nat.lt_of_lt_of_le y2 h0.1.size)).trans h0.2.2.2⟩; clear h0 hb)) | (go_at_call 18; have h0 := ‹Below w6.heap.size w6 _ ∧ _›; first | (have c0 := KI.out _ h0.1; (with_reducible refine c0.mono ?_); clear c0; rintro e w18 ⟨rfl, hb⟩; have HK18 : Hid (Below w6.heap.size w6 w18 ∧ w18.cell? ⟨w2.heap.size, 0, none⟩ = some (.pointer (some ⟨ba, 0, none⟩)) ∧ w18.cell? ⟨w3.heap.size, 0, none⟩ = some (.pointer (some ⟨bb, 0, none⟩)) ∧ w18.cell? ⟨w4.heap.size, 0, none⟩ = some (.pointer (some ⟨bc, 0, none⟩))) := ⟨h0.1.trans (hb.mono h0.1.size), (hb.cell (p := ⟨w2.heap.size, 0, none⟩) (Nat.lt_of_lt_of_le y0 h0.1.size)).trans h0.2.1, (hb.cell (p := ⟨w3.heap.size, 0, none⟩) (Nat.lt_of_lt_of_le y1 h0.1.size)).trans h0.2.2.1, (hb.cell (p := ⟨w4.heap.size, 0, none⟩) (Nat.lt_of_lt_of_le y2 h0.1.size)).trans h0.2.2.2⟩; clear h0 hb)))
          refine hK.out _ _ (by first | exact HK12.out | exact HK21.out | exact HK18.out) (fun hHeld => ?_)
          clear hK K
          (try simp only [Act.put, List.setIfInBounds_toArray, List.set_cons_zero, List.set_cons_succ])
          refine wpAnyH_take (i := 18) (oi := { dst := some 99, op := Op.binOp BinOp.geq 3 (Operand.tmp 96) (Operand.tmp 98) 3, type := 4, pos := "own.go:95", after := #[{ on := 15, ground := Ground.data }, { on := 17, ground := Ground.data }, { on := 14, ground := Ground.guard }], guard := some (14, false) }) (v := ?va18) rfl (by kernel_rfl) (by kernel_rfl) (by kernel_rfl) (fun _ _ _ h => h) (Or.inl ⟨by kernel_rfl, ?hya18⟩) (by assumption) ?resta18
          case hya18 => (intro w hSw; (try dsimp only at hSw); go_simp <;> with_reducible rfl)
          (try simp only [Act.put, List.setIfInBounds_toArray, List.set_cons_zero, List.set_cons_succ])
          refine wpAnyH_take (i := 19) (oi := { dst := some 100, op := Op.move (Operand.tmp 99), type := 4, pos := "own.go:95", after := #[{ on := 18, ground := Ground.data }, { on := 17, ground := Ground.chain }, { on := 14, ground := Ground.guard }], guard := some (14, false) }) (v := ?va19) rfl (by kernel_rfl) (by kernel_rfl) (by kernel_rfl) (fun _ _ _ h => h) (Or.inl ⟨by kernel_rfl, ?hya19⟩) (by assumption) ?resta19
          case hya19 => (intro w hSw; (try dsimp only at hSw); go_simp <;> with_reducible rfl)
          (try simp only [Act.put, List.setIfInBounds_toArray, List.set_cons_zero, List.set_cons_succ])
          refine wpAnyH_take (i := 20) (oi := { dst := some 101, op := Op.load 25 (Operand.tmp 11), type := 25, pos := "own.go:95", after := #[{ on := 19, ground := Ground.guard }], guard := some (19, true) }) (v := undef) rfl (by kernel_rfl) (by kernel_rfl) (by kernel_rfl) (fun _ _ _ h => h) (Or.inr ⟨by kernel_rfl, rfl⟩) (by assumption) ?_
          (try simp only [Act.put, List.setIfInBounds_toArray, List.set_cons_zero, List.set_cons_succ])
          refine wpAnyH_take (i := 21) (oi := { dst := some 102, op := Op.move (Operand.tmp 14), type := 3, pos := "own.go:95", after := #[{ on := 19, ground := Ground.guard }], guard := some (19, true) }) (v := undef) rfl (by kernel_rfl) (by kernel_rfl) (by kernel_rfl) (fun _ _ _ h => h) (Or.inr ⟨by kernel_rfl, rfl⟩) (by assumption) ?_
          (try simp only [Act.put, List.setIfInBounds_toArray, List.set_cons_zero, List.set_cons_succ])
          refine wpAnyH_take (i := 22) (oi := { dst := some 103, op := Op.call { callee := Callee.value (Operand.func 21), args := #[Operand.tmp 101, Operand.tmp 102], argTypes := #[25, 3] }, type := 25, pos := "own.go:95", after := #[{ on := 20, ground := Ground.data }, { on := 21, ground := Ground.data }, { on := 19, ground := Ground.chain }, { on := 19, ground := Ground.guard }], guard := some (19, true) }) (v := undef) rfl (by kernel_rfl) (by kernel_rfl) (by kernel_rfl) (fun _ _ _ h => h) (Or.inr ⟨by kernel_rfl, rfl⟩) (by assumption) ?_
          (try simp only [Act.put, List.setIfInBounds_toArray, List.set_cons_zero, List.set_cons_succ])
          refine wpAnyH_take (i := 23) (oi := { dst := some 104, op := Op.load 25 (Operand.tmp 8), type := 25, pos := "own.go:95", after := #[{ on := 19, ground := Ground.guard }], guard := some (19, true) }) (v := undef) rfl (by kernel_rfl) (by kernel_rfl) (by kernel_rfl) (fun _ _ _ h => h) (Or.inr ⟨by kernel_rfl, rfl⟩) (by assumption) ?_
          (try simp only [Act.put, List.setIfInBounds_toArray, List.set_cons_zero, List.set_cons_succ])
          refine wpAnyH_take (i := 24) (oi := { dst := some 105, op := Op.move (Operand.tmp 14), type := 3, pos := "own.go:95", after := #[{ on := 19, ground := Ground.guard }], guard := some (19, true) }) (v := undef) rfl (by kernel_rfl) (by kernel_rfl) (by kernel_rfl) (fun _ _ _ h => h) (Or.inr ⟨by kernel_rfl, rfl⟩) (by assumption) ?_
          (try simp only [Act.put, List.setIfInBounds_toArray, List.set_cons_zero, List.set_cons_succ])
          refine wpAnyH_take (i := 25) (oi := { dst := some 106, op := Op.load 25 (Operand.tmp 5), type := 25, pos := "own.go:95", after := #[{ on := 19, ground := Ground.guard }], guard := some (19, true) }) (v := undef) rfl (by kernel_rfl) (by kernel_rfl) (by kernel_rfl) (fun _ _ _ h => h) (Or.inr ⟨by kernel_rfl, rfl⟩) (by assumption) ?_
          (try simp only [Act.put, List.setIfInBounds_toArray, List.set_cons_zero, List.set_cons_succ])
          refine wpAnyH_take (i := 26) (oi := { dst := some 107, op := Op.call { callee := Callee.value (Operand.func 12), args := #[Operand.tmp 106], argTypes := #[25] }, type := 3, pos := "own.go:95", after := #[{ on := 25, ground := Ground.data }, { on := 22, ground := Ground.chain }, { on := 19, ground := Ground.guard }], guard := some (19, true) }) (v := undef) rfl (by kernel_rfl) (by kernel_rfl) (by kernel_rfl) (fun _ _ _ h => h) (Or.inr ⟨by kernel_rfl, rfl⟩) (by assumption) ?_
          (try simp only [Act.put, List.setIfInBounds_toArray, List.set_cons_zero, List.set_cons_succ])
          refine wpAnyH_take (i := 27) (oi := { dst := some 108, op := Op.binOp BinOp.sub 3 (Operand.tmp 105) (Operand.tmp 107) 3, type := 3, pos := "own.go:95", after := #[{ on := 24, ground := Ground.data }, { on := 26, ground := Ground.data }, { on := 19, ground := Ground.guard }], guard := some (19, true) }) (v := undef) rfl (by kernel_rfl) (by kernel_rfl) (by kernel_rfl) (fun _ _ _ h => h) (Or.inr ⟨by kernel_rfl, rfl⟩) (by assumption) ?_
          (try simp only [Act.put, List.setIfInBounds_toArray, List.set_cons_zero, List.set_cons_succ])
          refine wpAnyH_take (i := 28) (oi := { dst := some 109, op := Op.call { callee := Callee.value (Operand.func 21), args := #[Operand.tmp 104, Operand.tmp 108], argTypes := #[25, 3] }, type := 25, pos := "own.go:95", after := #[{ on := 23, ground := Ground.data }, { on := 27, ground := Ground.data }, { on := 26, ground := Ground.chain }, { on := 19, ground := Ground.guard }], guard := some (19, true) }) (v := undef) rfl (by kernel_rfl) (by kernel_rfl) (by kernel_rfl) (fun _ _ _ h => h) (Or.inr ⟨by kernel_rfl, rfl⟩) (by assumption) ?_
          (try simp only [Act.put, List.setIfInBounds_toArray, List.set_cons_zero, List.set_cons_succ])
          refine wpAnyH_take (i := 29) (oi := { dst := some 110, op := Op.call { callee := Callee.value (Operand.func 18), args := #[Operand.tmp 103, Operand.tmp 109], argTypes := #[25, 25] }, type := 4, pos := "own.go:95", after := #[{ on := 22, ground := Ground.data }, { on := 28, ground := Ground.data }, { on := 28, ground := Ground.chain }, { on := 19, ground := Ground.guard }], guard := some (19, true) }) (v := undef) rfl (by kernel_rfl) (by kernel_rfl) (by kernel_rfl) (fun _ _ _ h => h) (Or.inr ⟨by kernel_rfl, rfl⟩) (by assumption) ?_
          (try simp only [Act.put, List.setIfInBounds_toArray, List.set_cons_zero, List.set_cons_succ])
          refine wpAnyH_take (i := 30) (oi := { dst := some 111, op := Op.unOp UnOp.not 4 (Operand.tmp 110), type := 4, pos := "own.go:95", after := #[{ on := 29, ground := Ground.data }, { on := 19, ground := Ground.guard }], guard := some (19, true) }) (v := undef) rfl (by kernel_rfl) (by kernel_rfl) (by kernel_rfl) (fun _ _ _ h => h) (Or.inr ⟨by kernel_rfl, rfl⟩) (by assumption) ?_
          (try simp only [Act.put, List.setIfInBounds_toArray, List.set_cons_zero, List.set_cons_succ])
          refine wpAnyH_take (i := 31) (oi := { dst := some 112, op := Op.pick (Operand.tmp 100) (Operand.tmp 111) (Operand.const (Value.bool false)), type := 4, pos := "own.go:95", after := #[{ on := 19, ground := Ground.data }, { on := 30, ground := Ground.data }, { on := 14, ground := Ground.guard }], guard := some (14, false) }) (v := ?va31) rfl (by kernel_rfl) (by kernel_rfl) (by kernel_rfl) (fun _ _ _ h => h) (Or.inl ⟨by kernel_rfl, ?hya31⟩) (by assumption) ?resta31
          case hya31 => (intro w hSw; (try dsimp only at hSw); go_simp <;> with_reducible rfl)
          (try simp only [Act.put, List.setIfInBounds_toArray, List.set_cons_zero, List.set_cons_succ])
          refine wpAnyH_take (i := 32) (oi := { dst := some 113, op := Op.pick (Operand.tmp 95) (Operand.const (Value.bool true)) (Operand.tmp 112), type := 4, pos := "own.go:95", after := #[{ on := 14, ground := Ground.data }, { on := 31, ground := Ground.data }], guard := none }) (v := ?va32) rfl (by kernel_rfl) (by kernel_rfl) (by kernel_rfl) (fun _ _ _ h => h) (Or.inl ⟨by kernel_rfl, ?hya32⟩) (by assumption) ?resta32
          case hya32 => (intro w hSw; (try dsimp only at hSw); go_simp <;> with_reducible rfl)
          (try simp only [Act.put, List.setIfInBounds_toArray, List.set_cons_zero, List.set_cons_succ])
          refine wpAnyH_done (by kernel_rfl) ?_ _
          all_goals
            have B7 := Lib.hid (B6.out.trans (HK12.out.1.mono B6.out.size))
            clear HK18 HK21 HK12 KA KB KI D0 x0 x1 x2 y0 y1 y2
            go_wp2_with fail
            go_roundw
            case rel => exact ⟨k + 1, by omega, by go_num, B7⟩
            case measure => simp [intOf]; omega
        · have h1i : decide ((k : Int) < (m1 : Int)) = false := by simp; omega
          have h1j : decide (m1 ≤ k) = true := by simp; omega
          have h1k : decide (k < m1) = false := by simp; omega
          have f5 : IntKind.i64.wrap ((k : Int) - (m1 : Int)) = (k : Int) - (m1 : Int) := IntWalk.i64_in _ (by omega)
          obtain ⟨X', Y', ka', kb', ki'⟩ := K2.out k (by omega) hlt
          have ej : ((k - m1 : Nat) : Int) = (k : Int) - (m1 : Int) := by omega
          rw [ej] at kb'
          have KA : Hid (∀ w', Below w6.heap.size w6 w' → Calls Tryz.prog 21 #[.agg #[.pointer (some ⟨bc, 0, none⟩)], .int .i64 (k : Int)] w' fun e w2 => e = .returned (.agg #[.pointer X']) ∧ Below w'.heap.size w' w2) := fun w' hb => ka' w' (B6.out.trans (hb.mono B6.out.size))
          have KB : Hid (∀ w', Below w6.heap.size w6 w' → Calls Tryz.prog 21 #[.agg #[.pointer (some ⟨bb, 0, none⟩)], .int .i64 ((k : Int) - (m1 : Int))] w' fun e w2 => e = .returned (.agg #[.pointer Y']) ∧ Below w'.heap.size w' w2) := fun w' hb => kb' w' (B6.out.trans (hb.mono B6.out.size))
          have KI : Hid (∀ w', Below w6.heap.size w6 w' → Calls Tryz.prog 18 #[.agg #[.pointer X'], .agg #[.pointer Y']] w' fun e w2 => e = .returned (.bool true) ∧ Below w'.heap.size w' w2) := fun w' hb => ki' w' (B6.out.trans (hb.mono B6.out.size))
          clear ka' kb' ki' ej
          go_wp2_with fail
          refine wp_region_held_drew (S := (fun w' => Below w6.heap.size w6 w' ∧ w'.cell? ⟨w2.heap.size, 0, none⟩ = some (.pointer (some ⟨ba, 0, none⟩)) ∧ w'.cell? ⟨w3.heap.size, 0, none⟩ = some (.pointer (some ⟨bb, 0, none⟩)) ∧ w'.cell? ⟨w4.heap.size, 0, none⟩ = some (.pointer (some ⟨bc, 0, none⟩)))) (by kernel_rfl) (⟨D0.out, x0, x1, x2⟩) (fun hHeld => ?_)
          refine wpAnyH_take (i := 0) (oi := { dst := some 81, op := Op.move (Operand.tmp 14), type := 3, pos := "own.go:95", after := #[], guard := none }) (v := ?vb0) rfl (by kernel_rfl) (by kernel_rfl) (by kernel_rfl) (fun _ _ _ h => h) (Or.inl ⟨by kernel_rfl, ?hyb0⟩) (by assumption) ?restb0
          case hyb0 => (intro w hSw; (try dsimp only at hSw); go_simp <;> with_reducible rfl)
          (try simp only [Act.put, List.setIfInBounds_toArray, List.set_cons_zero, List.set_cons_succ])
          refine wpAnyH_take (i := 1) (oi := { dst := some 82, op := Op.load 25 (Operand.tmp 5), type := 25, pos := "own.go:95", after := #[], guard := none }) (v := ?vb1) rfl (by kernel_rfl) (by kernel_rfl) (by kernel_rfl) (fun _ _ _ h => h) (Or.inl ⟨by kernel_rfl, ?hyb1⟩) (by assumption) ?restb1
          case hyb1 => (intro w hSw; (try dsimp only at hSw); go_simp <;> with_reducible rfl)
          (try simp only [Act.put, List.setIfInBounds_toArray, List.set_cons_zero, List.set_cons_succ])
          refine wpAnyH_ready (rs := [2]) (by kernel_rfl) (by simp) (AllReadyH.cons (o := { dst := some 83, op := Op.call { callee := Callee.value (Operand.func 12), args := #[Operand.tmp 82], argTypes := #[25] }, type := 3, pos := "own.go:95", after := #[{ on := 1, ground := Ground.data }], guard := none }) rfl (fun K hK => ?_) AllReadyH.nil)
          go_simp
          (first | (go_at_call 12; have h0 := ‹Below w6.heap.size w6 _ ∧ _›; first | (have c0 := E12.out _ h0.1; (with_reducible refine c0.mono ?_); clear c0; rintro e w12 ⟨rfl, hb⟩; have HK12 : Hid (Below w6.heap.size w6 w12 ∧ w12.cell? ⟨w2.heap.size, 0, none⟩ = some (.pointer (some ⟨ba, 0, none⟩)) ∧ w12.cell? ⟨w3.heap.size, 0, none⟩ = some (.pointer (some ⟨bb, 0, none⟩)) ∧ w12.cell? ⟨w4.heap.size, 0, none⟩ = some (.pointer (some ⟨bc, 0, none⟩))) := ⟨h0.1.trans (hb.mono h0.1.size), (hb.cell (p := ⟨w2.heap.size, 0, none⟩) (Nat.lt_of_lt_of_le y0 h0.1.size)).trans h0.2.1, (hb.cell (p := ⟨w3.heap.size, 0, none⟩) (Nat.lt_of_lt_of_le y1 h0.1.size)).trans h0.2.2.1, (hb.cell (p := ⟨w4.heap.size, 0, none⟩) (Nat.lt_of_lt_of_le y2 h0.1.size)).trans h0.2.2.2⟩; clear h0 hb)) | (go_at_call 21; have h0 := ‹Below w6.heap.size w6 _ ∧ _›; first | (have c0 := KA.out _ h0.1; (with_reducible refine c0.mono ?_); clear c0; rintro e w21 ⟨rfl, hb⟩; have HK21 : Hid (Below w6.heap.size w6 w21 ∧ w21.cell? ⟨w2.heap.size, 0, none⟩ = some (.pointer (some ⟨ba, 0, none⟩)) ∧ w21.cell? ⟨w3.heap.size, 0, none⟩ = some (.pointer (some ⟨bb, 0, none⟩)) ∧ w21.cell? ⟨w4.heap.size, 0, none⟩ = some (.pointer (some ⟨bc, 0, none⟩))) := ⟨h0.1.trans (hb.mono h0.1.size), (hb.cell (p := ⟨w2.heap.size, 0, none⟩) (Nat.lt_of_lt_of_le y0 h0.1.size)).trans h0.2.1, (hb.cell (p := ⟨w3.heap.size, 0, none⟩) (Nat.lt_of_lt_of_le y1 h0.1.size)).trans h0.2.2.1, (hb.cell (p := ⟨w4.heap.size, 0, none⟩) (Nat.lt_of_lt_of_le y2 h0.1.size)).trans h0.2.2.2⟩; clear h0 hb) | (have c0 := KB.out _ h0.1; (with_reducible refine c0.mono ?_); clear c0; rintro e w21 ⟨rfl, hb⟩; have HK21 : Hid (Below w6.heap.size w6 w21 ∧ w21.cell? ⟨w2.heap.size, 0, none⟩ = some (.pointer (some ⟨ba, 0, none⟩)) ∧ w21.cell? ⟨w3.heap.size, 0, none⟩ = some (.pointer (some ⟨bb, 0, none⟩)) ∧ w21.cell? ⟨w4.heap.size, 0, none⟩ = some (.pointer (some ⟨bc, 0, none⟩))) := ⟨h0.1.trans (hb.mono h0.1.size), (hb.cell (p := ⟨w2.heap.size, 0, none⟩) (Nat.lt_of_lt_of_le y0 h0.1.size)).trans h0.2.1, (hb.cell (p := ⟨w3.heap.size, 0, none⟩) (Nat.lt_of_lt_of_le y1 h0.1.size)).trans h0.2.2.1, (hb.cell (p := ⟨w4.heap.size, 0, none⟩) (Nat.lt_of_lt_of_le y2 h0.1.size)).trans h0.2.2.2⟩; clear h0 hb)) | (go_at_call 18; have h0 := ‹Below w6.heap.size w6 _ ∧ _›; first | (have c0 := KI.out _ h0.1; (with_reducible refine c0.mono ?_); clear c0; rintro e w18 ⟨rfl, hb⟩; have HK18 : Hid (Below w6.heap.size w6 w18 ∧ w18.cell? ⟨w2.heap.size, 0, none⟩ = some (.pointer (some ⟨ba, 0, none⟩)) ∧ w18.cell? ⟨w3.heap.size, 0, none⟩ = some (.pointer (some ⟨bb, 0, none⟩)) ∧ w18.cell? ⟨w4.heap.size, 0, none⟩ = some (.pointer (some ⟨bc, 0, none⟩))) := ⟨h0.1.trans (hb.mono h0.1.size), (hb.cell (p := ⟨w2.heap.size, 0, none⟩) (Nat.lt_of_lt_of_le y0 h0.1.size)).trans h0.2.1, (hb.cell (p := ⟨w3.heap.size, 0, none⟩) (Nat.lt_of_lt_of_le y1 h0.1.size)).trans h0.2.2.1, (hb.cell (p := ⟨w4.heap.size, 0, none⟩) (Nat.lt_of_lt_of_le y2 h0.1.size)).trans h0.2.2.2⟩; clear h0 hb)))
          refine hK.out _ _ (by first | exact HK12.out | exact HK21.out | exact HK18.out) (fun hHeld => ?_)
          clear hK K
          (try simp only [Act.put, List.setIfInBounds_toArray, List.set_cons_zero, List.set_cons_succ])
          refine wpAnyH_take (i := 3) (oi := { dst := some 84, op := Op.binOp BinOp.lss 3 (Operand.tmp 81) (Operand.tmp 83) 3, type := 4, pos := "own.go:95", after := #[{ on := 0, ground := Ground.data }, { on := 2, ground := Ground.data }], guard := none }) (v := ?vb3) rfl (by kernel_rfl) (by kernel_rfl) (by kernel_rfl) (fun _ _ _ h => h) (Or.inl ⟨by kernel_rfl, ?hyb3⟩) (by assumption) ?restb3
          case hyb3 => (intro w hSw; (try dsimp only at hSw); go_simp <;> with_reducible rfl)
          (try simp only [Act.put, List.setIfInBounds_toArray, List.set_cons_zero, List.set_cons_succ])
          refine wpAnyH_take (i := 4) (oi := { dst := some 85, op := Op.move (Operand.tmp 84), type := 4, pos := "own.go:95", after := #[{ on := 3, ground := Ground.data }, { on := 2, ground := Ground.chain }], guard := none }) (v := ?vb4) rfl (by kernel_rfl) (by kernel_rfl) (by kernel_rfl) (fun _ _ _ h => h) (Or.inl ⟨by kernel_rfl, ?hyb4⟩) (by assumption) ?restb4
          case hyb4 => (intro w hSw; (try dsimp only at hSw); go_simp <;> with_reducible rfl)
          (try simp only [Act.put, List.setIfInBounds_toArray, List.set_cons_zero, List.set_cons_succ])
          refine wpAnyH_take (i := 5) (oi := { dst := some 86, op := Op.load 25 (Operand.tmp 11), type := 25, pos := "own.go:95", after := #[{ on := 4, ground := Ground.guard }], guard := some (4, true) }) (v := undef) rfl (by kernel_rfl) (by kernel_rfl) (by kernel_rfl) (fun _ _ _ h => h) (Or.inr ⟨by kernel_rfl, rfl⟩) (by assumption) ?_
          (try simp only [Act.put, List.setIfInBounds_toArray, List.set_cons_zero, List.set_cons_succ])
          refine wpAnyH_take (i := 6) (oi := { dst := some 87, op := Op.move (Operand.tmp 14), type := 3, pos := "own.go:95", after := #[{ on := 4, ground := Ground.guard }], guard := some (4, true) }) (v := undef) rfl (by kernel_rfl) (by kernel_rfl) (by kernel_rfl) (fun _ _ _ h => h) (Or.inr ⟨by kernel_rfl, rfl⟩) (by assumption) ?_
          (try simp only [Act.put, List.setIfInBounds_toArray, List.set_cons_zero, List.set_cons_succ])
          refine wpAnyH_take (i := 7) (oi := { dst := some 88, op := Op.call { callee := Callee.value (Operand.func 21), args := #[Operand.tmp 86, Operand.tmp 87], argTypes := #[25, 3] }, type := 25, pos := "own.go:95", after := #[{ on := 5, ground := Ground.data }, { on := 6, ground := Ground.data }, { on := 4, ground := Ground.chain }, { on := 4, ground := Ground.guard }], guard := some (4, true) }) (v := undef) rfl (by kernel_rfl) (by kernel_rfl) (by kernel_rfl) (fun _ _ _ h => h) (Or.inr ⟨by kernel_rfl, rfl⟩) (by assumption) ?_
          (try simp only [Act.put, List.setIfInBounds_toArray, List.set_cons_zero, List.set_cons_succ])
          refine wpAnyH_take (i := 8) (oi := { dst := some 89, op := Op.load 25 (Operand.tmp 5), type := 25, pos := "own.go:95", after := #[{ on := 4, ground := Ground.guard }], guard := some (4, true) }) (v := undef) rfl (by kernel_rfl) (by kernel_rfl) (by kernel_rfl) (fun _ _ _ h => h) (Or.inr ⟨by kernel_rfl, rfl⟩) (by assumption) ?_
          (try simp only [Act.put, List.setIfInBounds_toArray, List.set_cons_zero, List.set_cons_succ])
          refine wpAnyH_take (i := 9) (oi := { dst := some 90, op := Op.move (Operand.tmp 14), type := 3, pos := "own.go:95", after := #[{ on := 4, ground := Ground.guard }], guard := some (4, true) }) (v := undef) rfl (by kernel_rfl) (by kernel_rfl) (by kernel_rfl) (fun _ _ _ h => h) (Or.inr ⟨by kernel_rfl, rfl⟩) (by assumption) ?_
          (try simp only [Act.put, List.setIfInBounds_toArray, List.set_cons_zero, List.set_cons_succ])
          refine wpAnyH_take (i := 10) (oi := { dst := some 91, op := Op.call { callee := Callee.value (Operand.func 21), args := #[Operand.tmp 89, Operand.tmp 90], argTypes := #[25, 3] }, type := 25, pos := "own.go:95", after := #[{ on := 8, ground := Ground.data }, { on := 9, ground := Ground.data }, { on := 7, ground := Ground.chain }, { on := 4, ground := Ground.guard }], guard := some (4, true) }) (v := undef) rfl (by kernel_rfl) (by kernel_rfl) (by kernel_rfl) (fun _ _ _ h => h) (Or.inr ⟨by kernel_rfl, rfl⟩) (by assumption) ?_
          (try simp only [Act.put, List.setIfInBounds_toArray, List.set_cons_zero, List.set_cons_succ])
          refine wpAnyH_take (i := 11) (oi := { dst := some 92, op := Op.call { callee := Callee.value (Operand.func 18), args := #[Operand.tmp 88, Operand.tmp 91], argTypes := #[25, 25] }, type := 4, pos := "own.go:95", after := #[{ on := 7, ground := Ground.data }, { on := 10, ground := Ground.data }, { on := 10, ground := Ground.chain }, { on := 4, ground := Ground.guard }], guard := some (4, true) }) (v := undef) rfl (by kernel_rfl) (by kernel_rfl) (by kernel_rfl) (fun _ _ _ h => h) (Or.inr ⟨by kernel_rfl, rfl⟩) (by assumption) ?_
          (try simp only [Act.put, List.setIfInBounds_toArray, List.set_cons_zero, List.set_cons_succ])
          refine wpAnyH_take (i := 12) (oi := { dst := some 93, op := Op.unOp UnOp.not 4 (Operand.tmp 92), type := 4, pos := "own.go:95", after := #[{ on := 11, ground := Ground.data }, { on := 4, ground := Ground.guard }], guard := some (4, true) }) (v := undef) rfl (by kernel_rfl) (by kernel_rfl) (by kernel_rfl) (fun _ _ _ h => h) (Or.inr ⟨by kernel_rfl, rfl⟩) (by assumption) ?_
          (try simp only [Act.put, List.setIfInBounds_toArray, List.set_cons_zero, List.set_cons_succ])
          refine wpAnyH_take (i := 13) (oi := { dst := some 94, op := Op.pick (Operand.tmp 85) (Operand.tmp 93) (Operand.const (Value.bool false)), type := 4, pos := "own.go:95", after := #[{ on := 4, ground := Ground.data }, { on := 12, ground := Ground.data }], guard := none }) (v := ?vb13) rfl (by kernel_rfl) (by kernel_rfl) (by kernel_rfl) (fun _ _ _ h => h) (Or.inl ⟨by kernel_rfl, ?hyb13⟩) (by assumption) ?restb13
          case hyb13 => (intro w hSw; (try dsimp only at hSw); go_simp <;> with_reducible rfl)
          (try simp only [Act.put, List.setIfInBounds_toArray, List.set_cons_zero, List.set_cons_succ])
          refine wpAnyH_take (i := 14) (oi := { dst := some 95, op := Op.move (Operand.tmp 94), type := 4, pos := "own.go:95", after := #[{ on := 13, ground := Ground.data }, { on := 11, ground := Ground.chain }], guard := none }) (v := ?vb14) rfl (by kernel_rfl) (by kernel_rfl) (by kernel_rfl) (fun _ _ _ h => h) (Or.inl ⟨by kernel_rfl, ?hyb14⟩) (by assumption) ?restb14
          case hyb14 => (intro w hSw; (try dsimp only at hSw); go_simp <;> with_reducible rfl)
          (try simp only [Act.put, List.setIfInBounds_toArray, List.set_cons_zero, List.set_cons_succ])
          refine wpAnyH_take (i := 15) (oi := { dst := some 96, op := Op.move (Operand.tmp 14), type := 3, pos := "own.go:95", after := #[{ on := 14, ground := Ground.guard }], guard := some (14, false) }) (v := ?vb15) rfl (by kernel_rfl) (by kernel_rfl) (by kernel_rfl) (fun _ _ _ h => h) (Or.inl ⟨by kernel_rfl, ?hyb15⟩) (by assumption) ?restb15
          case hyb15 => (intro w hSw; (try dsimp only at hSw); go_simp <;> with_reducible rfl)
          (try simp only [Act.put, List.setIfInBounds_toArray, List.set_cons_zero, List.set_cons_succ])
          refine wpAnyH_take (i := 16) (oi := { dst := some 97, op := Op.load 25 (Operand.tmp 5), type := 25, pos := "own.go:95", after := #[{ on := 14, ground := Ground.guard }], guard := some (14, false) }) (v := ?vb16) rfl (by kernel_rfl) (by kernel_rfl) (by kernel_rfl) (fun _ _ _ h => h) (Or.inl ⟨by kernel_rfl, ?hyb16⟩) (by assumption) ?restb16
          case hyb16 => (intro w hSw; (try dsimp only at hSw); go_simp <;> with_reducible rfl)
          (try simp only [Act.put, List.setIfInBounds_toArray, List.set_cons_zero, List.set_cons_succ])
          refine wpAnyH_ready (rs := [17]) (by kernel_rfl) (by simp) (AllReadyH.cons (o := { dst := some 98, op := Op.call { callee := Callee.value (Operand.func 12), args := #[Operand.tmp 97], argTypes := #[25] }, type := 3, pos := "own.go:95", after := #[{ on := 16, ground := Ground.data }, { on := 14, ground := Ground.chain }, { on := 14, ground := Ground.guard }], guard := some (14, false) }) rfl (fun K hK => ?_) AllReadyH.nil)
          go_simp
          (first | (go_at_call 12; have h0 := ‹Below w6.heap.size w6 _ ∧ _›; first | (have c0 := E12.out _ h0.1; (with_reducible refine c0.mono ?_); clear c0; rintro e w12 ⟨rfl, hb⟩; have HK12 : Hid (Below w6.heap.size w6 w12 ∧ w12.cell? ⟨w2.heap.size, 0, none⟩ = some (.pointer (some ⟨ba, 0, none⟩)) ∧ w12.cell? ⟨w3.heap.size, 0, none⟩ = some (.pointer (some ⟨bb, 0, none⟩)) ∧ w12.cell? ⟨w4.heap.size, 0, none⟩ = some (.pointer (some ⟨bc, 0, none⟩))) := ⟨h0.1.trans (hb.mono h0.1.size), (hb.cell (p := ⟨w2.heap.size, 0, none⟩) (Nat.lt_of_lt_of_le y0 h0.1.size)).trans h0.2.1, (hb.cell (p := ⟨w3.heap.size, 0, none⟩) (Nat.lt_of_lt_of_le y1 h0.1.size)).trans h0.2.2.1, (hb.cell (p := ⟨w4.heap.size, 0, none⟩) (Nat.lt_of_lt_of_le y2 h0.1.size)).trans h0.2.2.2⟩; clear h0 hb)) | (go_at_call 21; have h0 := ‹Below w6.heap.size w6 _ ∧ _›; first | (have c0 := KA.out _ h0.1; (with_reducible refine c0.mono ?_); clear c0; rintro e w21 ⟨rfl, hb⟩; have HK21 : Hid (Below w6.heap.size w6 w21 ∧ w21.cell? ⟨w2.heap.size, 0, none⟩ = some (.pointer (some ⟨ba, 0, none⟩)) ∧ w21.cell? ⟨w3.heap.size, 0, none⟩ = some (.pointer (some ⟨bb, 0, none⟩)) ∧ w21.cell? ⟨w4.heap.size, 0, none⟩ = some (.pointer (some ⟨bc, 0, none⟩))) := ⟨h0.1.trans (hb.mono h0.1.size), (hb.cell (p := ⟨w2.heap.size, 0, none⟩) (Nat.lt_of_lt_of_le y0 h0.1.size)).trans h0.2.1, (hb.cell (p := ⟨w3.heap.size, 0, none⟩) (Nat.lt_of_lt_of_le y1 h0.1.size)).trans h0.2.2.1, (hb.cell (p := ⟨w4.heap.size, 0, none⟩) (Nat.lt_of_lt_of_le y2 h0.1.size)).trans h0.2.2.2⟩; clear h0 hb) | (have c0 := KB.out _ h0.1; (with_reducible refine c0.mono ?_); clear c0; rintro e w21 ⟨rfl, hb⟩; have HK21 : Hid (Below w6.heap.size w6 w21 ∧ w21.cell? ⟨w2.heap.size, 0, none⟩ = some (.pointer (some ⟨ba, 0, none⟩)) ∧ w21.cell? ⟨w3.heap.size, 0, none⟩ = some (.pointer (some ⟨bb, 0, none⟩)) ∧ w21.cell? ⟨w4.heap.size, 0, none⟩ = some (.pointer (some ⟨bc, 0, none⟩))) := ⟨h0.1.trans (hb.mono h0.1.size), (hb.cell (p := ⟨w2.heap.size, 0, none⟩) (Nat.lt_of_lt_of_le y0 h0.1.size)).trans h0.2.1, (hb.cell (p := ⟨w3.heap.size, 0, none⟩) (Nat.lt_of_lt_of_le y1 h0.1.size)).trans h0.2.2.1, (hb.cell (p := ⟨w4.heap.size, 0, none⟩) (Nat.lt_of_lt_of_le y2 h0.1.size)).trans h0.2.2.2⟩; clear h0 hb)) | (go_at_call 18; have h0 := ‹Below w6.heap.size w6 _ ∧ _›; first | (have c0 := KI.out _ h0.1; (with_reducible refine c0.mono ?_); clear c0; rintro e w18 ⟨rfl, hb⟩; have HK18 : Hid (Below w6.heap.size w6 w18 ∧ w18.cell? ⟨w2.heap.size, 0, none⟩ = some (.pointer (some ⟨ba, 0, none⟩)) ∧ w18.cell? ⟨w3.heap.size, 0, none⟩ = some (.pointer (some ⟨bb, 0, none⟩)) ∧ w18.cell? ⟨w4.heap.size, 0, none⟩ = some (.pointer (some ⟨bc, 0, none⟩))) := ⟨h0.1.trans (hb.mono h0.1.size), (hb.cell (p := ⟨w2.heap.size, 0, none⟩) (Nat.lt_of_lt_of_le y0 h0.1.size)).trans h0.2.1, (hb.cell (p := ⟨w3.heap.size, 0, none⟩) (Nat.lt_of_lt_of_le y1 h0.1.size)).trans h0.2.2.1, (hb.cell (p := ⟨w4.heap.size, 0, none⟩) (Nat.lt_of_lt_of_le y2 h0.1.size)).trans h0.2.2.2⟩; clear h0 hb)))
          refine hK.out _ _ (by first | exact HK12.out | exact HK21.out | exact HK18.out) (fun hHeld => ?_)
          clear hK K
          (try simp only [Act.put, List.setIfInBounds_toArray, List.set_cons_zero, List.set_cons_succ])
          refine wpAnyH_take (i := 18) (oi := { dst := some 99, op := Op.binOp BinOp.geq 3 (Operand.tmp 96) (Operand.tmp 98) 3, type := 4, pos := "own.go:95", after := #[{ on := 15, ground := Ground.data }, { on := 17, ground := Ground.data }, { on := 14, ground := Ground.guard }], guard := some (14, false) }) (v := ?vb18) rfl (by kernel_rfl) (by kernel_rfl) (by kernel_rfl) (fun _ _ _ h => h) (Or.inl ⟨by kernel_rfl, ?hyb18⟩) (by assumption) ?restb18
          case hyb18 => (intro w hSw; (try dsimp only at hSw); go_simp <;> with_reducible rfl)
          (try simp only [Act.put, List.setIfInBounds_toArray, List.set_cons_zero, List.set_cons_succ])
          refine wpAnyH_take (i := 19) (oi := { dst := some 100, op := Op.move (Operand.tmp 99), type := 4, pos := "own.go:95", after := #[{ on := 18, ground := Ground.data }, { on := 17, ground := Ground.chain }, { on := 14, ground := Ground.guard }], guard := some (14, false) }) (v := ?vb19) rfl (by kernel_rfl) (by kernel_rfl) (by kernel_rfl) (fun _ _ _ h => h) (Or.inl ⟨by kernel_rfl, ?hyb19⟩) (by assumption) ?restb19
          case hyb19 => (intro w hSw; (try dsimp only at hSw); go_simp <;> with_reducible rfl)
          (try simp only [Act.put, List.setIfInBounds_toArray, List.set_cons_zero, List.set_cons_succ])
          refine wpAnyH_take (i := 20) (oi := { dst := some 101, op := Op.load 25 (Operand.tmp 11), type := 25, pos := "own.go:95", after := #[{ on := 19, ground := Ground.guard }], guard := some (19, true) }) (v := ?vb20) rfl (by kernel_rfl) (by kernel_rfl) (by kernel_rfl) (fun _ _ _ h => h) (Or.inl ⟨by kernel_rfl, ?hyb20⟩) (by assumption) ?restb20
          case hyb20 => (intro w hSw; (try dsimp only at hSw); go_simp <;> with_reducible rfl)
          (try simp only [Act.put, List.setIfInBounds_toArray, List.set_cons_zero, List.set_cons_succ])
          refine wpAnyH_take (i := 21) (oi := { dst := some 102, op := Op.move (Operand.tmp 14), type := 3, pos := "own.go:95", after := #[{ on := 19, ground := Ground.guard }], guard := some (19, true) }) (v := ?vb21) rfl (by kernel_rfl) (by kernel_rfl) (by kernel_rfl) (fun _ _ _ h => h) (Or.inl ⟨by kernel_rfl, ?hyb21⟩) (by assumption) ?restb21
          case hyb21 => (intro w hSw; (try dsimp only at hSw); go_simp <;> with_reducible rfl)
          (try simp only [Act.put, List.setIfInBounds_toArray, List.set_cons_zero, List.set_cons_succ])
          refine wpAnyH_take (i := 23) (oi := { dst := some 104, op := Op.load 25 (Operand.tmp 8), type := 25, pos := "own.go:95", after := #[{ on := 19, ground := Ground.guard }], guard := some (19, true) }) (v := ?vb23) rfl (by kernel_rfl) (by kernel_rfl) (by kernel_rfl) (fun _ _ _ h => h) (Or.inl ⟨by kernel_rfl, ?hyb23⟩) (by assumption) ?restb23
          case hyb23 => (intro w hSw; (try dsimp only at hSw); go_simp <;> with_reducible rfl)
          (try simp only [Act.put, List.setIfInBounds_toArray, List.set_cons_zero, List.set_cons_succ])
          refine wpAnyH_take (i := 24) (oi := { dst := some 105, op := Op.move (Operand.tmp 14), type := 3, pos := "own.go:95", after := #[{ on := 19, ground := Ground.guard }], guard := some (19, true) }) (v := ?vb24) rfl (by kernel_rfl) (by kernel_rfl) (by kernel_rfl) (fun _ _ _ h => h) (Or.inl ⟨by kernel_rfl, ?hyb24⟩) (by assumption) ?restb24
          case hyb24 => (intro w hSw; (try dsimp only at hSw); go_simp <;> with_reducible rfl)
          (try simp only [Act.put, List.setIfInBounds_toArray, List.set_cons_zero, List.set_cons_succ])
          refine wpAnyH_take (i := 25) (oi := { dst := some 106, op := Op.load 25 (Operand.tmp 5), type := 25, pos := "own.go:95", after := #[{ on := 19, ground := Ground.guard }], guard := some (19, true) }) (v := ?vb25) rfl (by kernel_rfl) (by kernel_rfl) (by kernel_rfl) (fun _ _ _ h => h) (Or.inl ⟨by kernel_rfl, ?hyb25⟩) (by assumption) ?restb25
          case hyb25 => (intro w hSw; (try dsimp only at hSw); go_simp <;> with_reducible rfl)
          (try simp only [Act.put, List.setIfInBounds_toArray, List.set_cons_zero, List.set_cons_succ])
          refine wpAnyH_ready (rs := [22]) (by kernel_rfl) (by simp) (AllReadyH.cons (o := { dst := some 103, op := Op.call { callee := Callee.value (Operand.func 21), args := #[Operand.tmp 101, Operand.tmp 102], argTypes := #[25, 3] }, type := 25, pos := "own.go:95", after := #[{ on := 20, ground := Ground.data }, { on := 21, ground := Ground.data }, { on := 19, ground := Ground.chain }, { on := 19, ground := Ground.guard }], guard := some (19, true) }) rfl (fun K hK => ?_) AllReadyH.nil)
          go_simp
          (first | (go_at_call 12; have h0 := ‹Below w6.heap.size w6 _ ∧ _›; first | (have c0 := E12.out _ h0.1; (with_reducible refine c0.mono ?_); clear c0; rintro e w12 ⟨rfl, hb⟩; have HK12 : Hid (Below w6.heap.size w6 w12 ∧ w12.cell? ⟨w2.heap.size, 0, none⟩ = some (.pointer (some ⟨ba, 0, none⟩)) ∧ w12.cell? ⟨w3.heap.size, 0, none⟩ = some (.pointer (some ⟨bb, 0, none⟩)) ∧ w12.cell? ⟨w4.heap.size, 0, none⟩ = some (.pointer (some ⟨bc, 0, none⟩))) := ⟨h0.1.trans (hb.mono h0.1.size), (hb.cell (p := ⟨w2.heap.size, 0, none⟩) (Nat.lt_of_lt_of_le y0 h0.1.size)).trans h0.2.1, (hb.cell (p := ⟨w3.heap.size, 0, none⟩) (Nat.lt_of_lt_of_le y1 h0.1.size)).trans h0.2.2.1, (hb.cell (p := ⟨w4.heap.size, 0, none⟩) (Nat.lt_of_lt_of_le y2 h0.1.size)).trans h0.2.2.2⟩; clear h0 hb)) | (go_at_call 21; have h0 := ‹Below w6.heap.size w6 _ ∧ _›; first | (have c0 := KA.out _ h0.1; (with_reducible refine c0.mono ?_); clear c0; rintro e w21 ⟨rfl, hb⟩; have HK21 : Hid (Below w6.heap.size w6 w21 ∧ w21.cell? ⟨w2.heap.size, 0, none⟩ = some (.pointer (some ⟨ba, 0, none⟩)) ∧ w21.cell? ⟨w3.heap.size, 0, none⟩ = some (.pointer (some ⟨bb, 0, none⟩)) ∧ w21.cell? ⟨w4.heap.size, 0, none⟩ = some (.pointer (some ⟨bc, 0, none⟩))) := ⟨h0.1.trans (hb.mono h0.1.size), (hb.cell (p := ⟨w2.heap.size, 0, none⟩) (Nat.lt_of_lt_of_le y0 h0.1.size)).trans h0.2.1, (hb.cell (p := ⟨w3.heap.size, 0, none⟩) (Nat.lt_of_lt_of_le y1 h0.1.size)).trans h0.2.2.1, (hb.cell (p := ⟨w4.heap.size, 0, none⟩) (Nat.lt_of_lt_of_le y2 h0.1.size)).trans h0.2.2.2⟩; clear h0 hb) | (have c0 := KB.out _ h0.1; (with_reducible refine c0.mono ?_); clear c0; rintro e w21 ⟨rfl, hb⟩; have HK21 : Hid (Below w6.heap.size w6 w21 ∧ w21.cell? ⟨w2.heap.size, 0, none⟩ = some (.pointer (some ⟨ba, 0, none⟩)) ∧ w21.cell? ⟨w3.heap.size, 0, none⟩ = some (.pointer (some ⟨bb, 0, none⟩)) ∧ w21.cell? ⟨w4.heap.size, 0, none⟩ = some (.pointer (some ⟨bc, 0, none⟩))) := ⟨h0.1.trans (hb.mono h0.1.size), (hb.cell (p := ⟨w2.heap.size, 0, none⟩) (Nat.lt_of_lt_of_le y0 h0.1.size)).trans h0.2.1, (hb.cell (p := ⟨w3.heap.size, 0, none⟩) (Nat.lt_of_lt_of_le y1 h0.1.size)).trans h0.2.2.1, (hb.cell (p := ⟨w4.heap.size, 0, none⟩) (Nat.lt_of_lt_of_le y2 h0.1.size)).trans h0.2.2.2⟩; clear h0 hb)) | (go_at_call 18; have h0 := ‹Below w6.heap.size w6 _ ∧ _›; first | (have c0 := KI.out _ h0.1; (with_reducible refine c0.mono ?_); clear c0; rintro e w18 ⟨rfl, hb⟩; have HK18 : Hid (Below w6.heap.size w6 w18 ∧ w18.cell? ⟨w2.heap.size, 0, none⟩ = some (.pointer (some ⟨ba, 0, none⟩)) ∧ w18.cell? ⟨w3.heap.size, 0, none⟩ = some (.pointer (some ⟨bb, 0, none⟩)) ∧ w18.cell? ⟨w4.heap.size, 0, none⟩ = some (.pointer (some ⟨bc, 0, none⟩))) := ⟨h0.1.trans (hb.mono h0.1.size), (hb.cell (p := ⟨w2.heap.size, 0, none⟩) (Nat.lt_of_lt_of_le y0 h0.1.size)).trans h0.2.1, (hb.cell (p := ⟨w3.heap.size, 0, none⟩) (Nat.lt_of_lt_of_le y1 h0.1.size)).trans h0.2.2.1, (hb.cell (p := ⟨w4.heap.size, 0, none⟩) (Nat.lt_of_lt_of_le y2 h0.1.size)).trans h0.2.2.2⟩; clear h0 hb)))
          refine hK.out _ _ (by first | exact HK12.out | exact HK21.out | exact HK18.out) (fun hHeld => ?_)
          clear hK K
          (try simp only [Act.put, List.setIfInBounds_toArray, List.set_cons_zero, List.set_cons_succ])
          refine wpAnyH_ready (rs := [26]) (by kernel_rfl) (by simp) (AllReadyH.cons (o := { dst := some 107, op := Op.call { callee := Callee.value (Operand.func 12), args := #[Operand.tmp 106], argTypes := #[25] }, type := 3, pos := "own.go:95", after := #[{ on := 25, ground := Ground.data }, { on := 22, ground := Ground.chain }, { on := 19, ground := Ground.guard }], guard := some (19, true) }) rfl (fun K hK => ?_) AllReadyH.nil)
          go_simp
          (first | (go_at_call 12; have h0 := ‹Below w6.heap.size w6 _ ∧ _›; first | (have c0 := E12.out _ h0.1; (with_reducible refine c0.mono ?_); clear c0; rintro e w12 ⟨rfl, hb⟩; have HK12 : Hid (Below w6.heap.size w6 w12 ∧ w12.cell? ⟨w2.heap.size, 0, none⟩ = some (.pointer (some ⟨ba, 0, none⟩)) ∧ w12.cell? ⟨w3.heap.size, 0, none⟩ = some (.pointer (some ⟨bb, 0, none⟩)) ∧ w12.cell? ⟨w4.heap.size, 0, none⟩ = some (.pointer (some ⟨bc, 0, none⟩))) := ⟨h0.1.trans (hb.mono h0.1.size), (hb.cell (p := ⟨w2.heap.size, 0, none⟩) (Nat.lt_of_lt_of_le y0 h0.1.size)).trans h0.2.1, (hb.cell (p := ⟨w3.heap.size, 0, none⟩) (Nat.lt_of_lt_of_le y1 h0.1.size)).trans h0.2.2.1, (hb.cell (p := ⟨w4.heap.size, 0, none⟩) (Nat.lt_of_lt_of_le y2 h0.1.size)).trans h0.2.2.2⟩; clear h0 hb)) | (go_at_call 21; have h0 := ‹Below w6.heap.size w6 _ ∧ _›; first | (have c0 := KA.out _ h0.1; (with_reducible refine c0.mono ?_); clear c0; rintro e w21 ⟨rfl, hb⟩; have HK21 : Hid (Below w6.heap.size w6 w21 ∧ w21.cell? ⟨w2.heap.size, 0, none⟩ = some (.pointer (some ⟨ba, 0, none⟩)) ∧ w21.cell? ⟨w3.heap.size, 0, none⟩ = some (.pointer (some ⟨bb, 0, none⟩)) ∧ w21.cell? ⟨w4.heap.size, 0, none⟩ = some (.pointer (some ⟨bc, 0, none⟩))) := ⟨h0.1.trans (hb.mono h0.1.size), (hb.cell (p := ⟨w2.heap.size, 0, none⟩) (Nat.lt_of_lt_of_le y0 h0.1.size)).trans h0.2.1, (hb.cell (p := ⟨w3.heap.size, 0, none⟩) (Nat.lt_of_lt_of_le y1 h0.1.size)).trans h0.2.2.1, (hb.cell (p := ⟨w4.heap.size, 0, none⟩) (Nat.lt_of_lt_of_le y2 h0.1.size)).trans h0.2.2.2⟩; clear h0 hb) | (have c0 := KB.out _ h0.1; (with_reducible refine c0.mono ?_); clear c0; rintro e w21 ⟨rfl, hb⟩; have HK21 : Hid (Below w6.heap.size w6 w21 ∧ w21.cell? ⟨w2.heap.size, 0, none⟩ = some (.pointer (some ⟨ba, 0, none⟩)) ∧ w21.cell? ⟨w3.heap.size, 0, none⟩ = some (.pointer (some ⟨bb, 0, none⟩)) ∧ w21.cell? ⟨w4.heap.size, 0, none⟩ = some (.pointer (some ⟨bc, 0, none⟩))) := ⟨h0.1.trans (hb.mono h0.1.size), (hb.cell (p := ⟨w2.heap.size, 0, none⟩) (Nat.lt_of_lt_of_le y0 h0.1.size)).trans h0.2.1, (hb.cell (p := ⟨w3.heap.size, 0, none⟩) (Nat.lt_of_lt_of_le y1 h0.1.size)).trans h0.2.2.1, (hb.cell (p := ⟨w4.heap.size, 0, none⟩) (Nat.lt_of_lt_of_le y2 h0.1.size)).trans h0.2.2.2⟩; clear h0 hb)) | (go_at_call 18; have h0 := ‹Below w6.heap.size w6 _ ∧ _›; first | (have c0 := KI.out _ h0.1; (with_reducible refine c0.mono ?_); clear c0; rintro e w18 ⟨rfl, hb⟩; have HK18 : Hid (Below w6.heap.size w6 w18 ∧ w18.cell? ⟨w2.heap.size, 0, none⟩ = some (.pointer (some ⟨ba, 0, none⟩)) ∧ w18.cell? ⟨w3.heap.size, 0, none⟩ = some (.pointer (some ⟨bb, 0, none⟩)) ∧ w18.cell? ⟨w4.heap.size, 0, none⟩ = some (.pointer (some ⟨bc, 0, none⟩))) := ⟨h0.1.trans (hb.mono h0.1.size), (hb.cell (p := ⟨w2.heap.size, 0, none⟩) (Nat.lt_of_lt_of_le y0 h0.1.size)).trans h0.2.1, (hb.cell (p := ⟨w3.heap.size, 0, none⟩) (Nat.lt_of_lt_of_le y1 h0.1.size)).trans h0.2.2.1, (hb.cell (p := ⟨w4.heap.size, 0, none⟩) (Nat.lt_of_lt_of_le y2 h0.1.size)).trans h0.2.2.2⟩; clear h0 hb)))
          refine hK.out _ _ (by first | exact HK12.out | exact HK21.out | exact HK18.out) (fun hHeld => ?_)
          clear hK K
          (try simp only [Act.put, List.setIfInBounds_toArray, List.set_cons_zero, List.set_cons_succ])
          refine wpAnyH_take (i := 27) (oi := { dst := some 108, op := Op.binOp BinOp.sub 3 (Operand.tmp 105) (Operand.tmp 107) 3, type := 3, pos := "own.go:95", after := #[{ on := 24, ground := Ground.data }, { on := 26, ground := Ground.data }, { on := 19, ground := Ground.guard }], guard := some (19, true) }) (v := ?vb27) rfl (by kernel_rfl) (by kernel_rfl) (by kernel_rfl) (fun _ _ _ h => h) (Or.inl ⟨by kernel_rfl, ?hyb27⟩) (by assumption) ?restb27
          case hyb27 => (intro w hSw; (try dsimp only at hSw); go_simp <;> with_reducible rfl)
          (try simp only [Act.put, List.setIfInBounds_toArray, List.set_cons_zero, List.set_cons_succ])
          refine wpAnyH_ready (rs := [28]) (by kernel_rfl) (by simp) (AllReadyH.cons (o := { dst := some 109, op := Op.call { callee := Callee.value (Operand.func 21), args := #[Operand.tmp 104, Operand.tmp 108], argTypes := #[25, 3] }, type := 25, pos := "own.go:95", after := #[{ on := 23, ground := Ground.data }, { on := 27, ground := Ground.data }, { on := 26, ground := Ground.chain }, { on := 19, ground := Ground.guard }], guard := some (19, true) }) rfl (fun K hK => ?_) AllReadyH.nil)
          go_simp
          (first | (go_at_call 12; have h0 := ‹Below w6.heap.size w6 _ ∧ _›; first | (have c0 := E12.out _ h0.1; (with_reducible refine c0.mono ?_); clear c0; rintro e w12 ⟨rfl, hb⟩; have HK12 : Hid (Below w6.heap.size w6 w12 ∧ w12.cell? ⟨w2.heap.size, 0, none⟩ = some (.pointer (some ⟨ba, 0, none⟩)) ∧ w12.cell? ⟨w3.heap.size, 0, none⟩ = some (.pointer (some ⟨bb, 0, none⟩)) ∧ w12.cell? ⟨w4.heap.size, 0, none⟩ = some (.pointer (some ⟨bc, 0, none⟩))) := ⟨h0.1.trans (hb.mono h0.1.size), (hb.cell (p := ⟨w2.heap.size, 0, none⟩) (Nat.lt_of_lt_of_le y0 h0.1.size)).trans h0.2.1, (hb.cell (p := ⟨w3.heap.size, 0, none⟩) (Nat.lt_of_lt_of_le y1 h0.1.size)).trans h0.2.2.1, (hb.cell (p := ⟨w4.heap.size, 0, none⟩) (Nat.lt_of_lt_of_le y2 h0.1.size)).trans h0.2.2.2⟩; clear h0 hb)) | (go_at_call 21; have h0 := ‹Below w6.heap.size w6 _ ∧ _›; first | (have c0 := KA.out _ h0.1; (with_reducible refine c0.mono ?_); clear c0; rintro e w21 ⟨rfl, hb⟩; have HK21 : Hid (Below w6.heap.size w6 w21 ∧ w21.cell? ⟨w2.heap.size, 0, none⟩ = some (.pointer (some ⟨ba, 0, none⟩)) ∧ w21.cell? ⟨w3.heap.size, 0, none⟩ = some (.pointer (some ⟨bb, 0, none⟩)) ∧ w21.cell? ⟨w4.heap.size, 0, none⟩ = some (.pointer (some ⟨bc, 0, none⟩))) := ⟨h0.1.trans (hb.mono h0.1.size), (hb.cell (p := ⟨w2.heap.size, 0, none⟩) (Nat.lt_of_lt_of_le y0 h0.1.size)).trans h0.2.1, (hb.cell (p := ⟨w3.heap.size, 0, none⟩) (Nat.lt_of_lt_of_le y1 h0.1.size)).trans h0.2.2.1, (hb.cell (p := ⟨w4.heap.size, 0, none⟩) (Nat.lt_of_lt_of_le y2 h0.1.size)).trans h0.2.2.2⟩; clear h0 hb) | (have c0 := KB.out _ h0.1; (with_reducible refine c0.mono ?_); clear c0; rintro e w21 ⟨rfl, hb⟩; have HK21 : Hid (Below w6.heap.size w6 w21 ∧ w21.cell? ⟨w2.heap.size, 0, none⟩ = some (.pointer (some ⟨ba, 0, none⟩)) ∧ w21.cell? ⟨w3.heap.size, 0, none⟩ = some (.pointer (some ⟨bb, 0, none⟩)) ∧ w21.cell? ⟨w4.heap.size, 0, none⟩ = some (.pointer (some ⟨bc, 0, none⟩))) := ⟨h0.1.trans (hb.mono h0.1.size), (hb.cell (p := ⟨w2.heap.size, 0, none⟩) (Nat.lt_of_lt_of_le y0 h0.1.size)).trans h0.2.1, (hb.cell (p := ⟨w3.heap.size, 0, none⟩) (Nat.lt_of_lt_of_le y1 h0.1.size)).trans h0.2.2.1, (hb.cell (p := ⟨w4.heap.size, 0, none⟩) (Nat.lt_of_lt_of_le y2 h0.1.size)).trans h0.2.2.2⟩; clear h0 hb)) | (go_at_call 18; have h0 := ‹Below w6.heap.size w6 _ ∧ _›; first | (have c0 := KI.out _ h0.1; (with_reducible refine c0.mono ?_); clear c0; rintro e w18 ⟨rfl, hb⟩; have HK18 : Hid (Below w6.heap.size w6 w18 ∧ w18.cell? ⟨w2.heap.size, 0, none⟩ = some (.pointer (some ⟨ba, 0, none⟩)) ∧ w18.cell? ⟨w3.heap.size, 0, none⟩ = some (.pointer (some ⟨bb, 0, none⟩)) ∧ w18.cell? ⟨w4.heap.size, 0, none⟩ = some (.pointer (some ⟨bc, 0, none⟩))) := ⟨h0.1.trans (hb.mono h0.1.size), (hb.cell (p := ⟨w2.heap.size, 0, none⟩) (Nat.lt_of_lt_of_le y0 h0.1.size)).trans h0.2.1, (hb.cell (p := ⟨w3.heap.size, 0, none⟩) (Nat.lt_of_lt_of_le y1 h0.1.size)).trans h0.2.2.1, (hb.cell (p := ⟨w4.heap.size, 0, none⟩) (Nat.lt_of_lt_of_le y2 h0.1.size)).trans h0.2.2.2⟩; clear h0 hb)))
          refine hK.out _ _ (by first | exact HK12.out | exact HK21.out | exact HK18.out) (fun hHeld => ?_)
          clear hK K
          (try simp only [Act.put, List.setIfInBounds_toArray, List.set_cons_zero, List.set_cons_succ])
          refine wpAnyH_ready (rs := [29]) (by kernel_rfl) (by simp) (AllReadyH.cons (o := { dst := some 110, op := Op.call { callee := Callee.value (Operand.func 18), args := #[Operand.tmp 103, Operand.tmp 109], argTypes := #[25, 25] }, type := 4, pos := "own.go:95", after := #[{ on := 22, ground := Ground.data }, { on := 28, ground := Ground.data }, { on := 28, ground := Ground.chain }, { on := 19, ground := Ground.guard }], guard := some (19, true) }) rfl (fun K hK => ?_) AllReadyH.nil)
          go_simp
          (first | (go_at_call 12; have h0 := ‹Below w6.heap.size w6 _ ∧ _›; first | (have c0 := E12.out _ h0.1; (with_reducible refine c0.mono ?_); clear c0; rintro e w12 ⟨rfl, hb⟩; have HK12 : Hid (Below w6.heap.size w6 w12 ∧ w12.cell? ⟨w2.heap.size, 0, none⟩ = some (.pointer (some ⟨ba, 0, none⟩)) ∧ w12.cell? ⟨w3.heap.size, 0, none⟩ = some (.pointer (some ⟨bb, 0, none⟩)) ∧ w12.cell? ⟨w4.heap.size, 0, none⟩ = some (.pointer (some ⟨bc, 0, none⟩))) := ⟨h0.1.trans (hb.mono h0.1.size), (hb.cell (p := ⟨w2.heap.size, 0, none⟩) (Nat.lt_of_lt_of_le y0 h0.1.size)).trans h0.2.1, (hb.cell (p := ⟨w3.heap.size, 0, none⟩) (Nat.lt_of_lt_of_le y1 h0.1.size)).trans h0.2.2.1, (hb.cell (p := ⟨w4.heap.size, 0, none⟩) (Nat.lt_of_lt_of_le y2 h0.1.size)).trans h0.2.2.2⟩; clear h0 hb)) | (go_at_call 21; have h0 := ‹Below w6.heap.size w6 _ ∧ _›; first | (have c0 := KA.out _ h0.1; (with_reducible refine c0.mono ?_); clear c0; rintro e w21 ⟨rfl, hb⟩; have HK21 : Hid (Below w6.heap.size w6 w21 ∧ w21.cell? ⟨w2.heap.size, 0, none⟩ = some (.pointer (some ⟨ba, 0, none⟩)) ∧ w21.cell? ⟨w3.heap.size, 0, none⟩ = some (.pointer (some ⟨bb, 0, none⟩)) ∧ w21.cell? ⟨w4.heap.size, 0, none⟩ = some (.pointer (some ⟨bc, 0, none⟩))) := ⟨h0.1.trans (hb.mono h0.1.size), (hb.cell (p := ⟨w2.heap.size, 0, none⟩) (Nat.lt_of_lt_of_le y0 h0.1.size)).trans h0.2.1, (hb.cell (p := ⟨w3.heap.size, 0, none⟩) (Nat.lt_of_lt_of_le y1 h0.1.size)).trans h0.2.2.1, (hb.cell (p := ⟨w4.heap.size, 0, none⟩) (Nat.lt_of_lt_of_le y2 h0.1.size)).trans h0.2.2.2⟩; clear h0 hb) | (have c0 := KB.out _ h0.1; (with_reducible refine c0.mono ?_); clear c0; rintro e w21 ⟨rfl, hb⟩; have HK21 : Hid (Below w6.heap.size w6 w21 ∧ w21.cell? ⟨w2.heap.size, 0, none⟩ = some (.pointer (some ⟨ba, 0, none⟩)) ∧ w21.cell? ⟨w3.heap.size, 0, none⟩ = some (.pointer (some ⟨bb, 0, none⟩)) ∧ w21.cell? ⟨w4.heap.size, 0, none⟩ = some (.pointer (some ⟨bc, 0, none⟩))) := ⟨h0.1.trans (hb.mono h0.1.size), (hb.cell (p := ⟨w2.heap.size, 0, none⟩) (Nat.lt_of_lt_of_le y0 h0.1.size)).trans h0.2.1, (hb.cell (p := ⟨w3.heap.size, 0, none⟩) (Nat.lt_of_lt_of_le y1 h0.1.size)).trans h0.2.2.1, (hb.cell (p := ⟨w4.heap.size, 0, none⟩) (Nat.lt_of_lt_of_le y2 h0.1.size)).trans h0.2.2.2⟩; clear h0 hb)) | (go_at_call 18; have h0 := ‹Below w6.heap.size w6 _ ∧ _›; first | (have c0 := KI.out _ h0.1; (with_reducible refine c0.mono ?_); clear c0; rintro e w18 ⟨rfl, hb⟩; have HK18 : Hid (Below w6.heap.size w6 w18 ∧ w18.cell? ⟨w2.heap.size, 0, none⟩ = some (.pointer (some ⟨ba, 0, none⟩)) ∧ w18.cell? ⟨w3.heap.size, 0, none⟩ = some (.pointer (some ⟨bb, 0, none⟩)) ∧ w18.cell? ⟨w4.heap.size, 0, none⟩ = some (.pointer (some ⟨bc, 0, none⟩))) := ⟨h0.1.trans (hb.mono h0.1.size), (hb.cell (p := ⟨w2.heap.size, 0, none⟩) (Nat.lt_of_lt_of_le y0 h0.1.size)).trans h0.2.1, (hb.cell (p := ⟨w3.heap.size, 0, none⟩) (Nat.lt_of_lt_of_le y1 h0.1.size)).trans h0.2.2.1, (hb.cell (p := ⟨w4.heap.size, 0, none⟩) (Nat.lt_of_lt_of_le y2 h0.1.size)).trans h0.2.2.2⟩; clear h0 hb)))
          refine hK.out _ _ (by first | exact HK12.out | exact HK21.out | exact HK18.out) (fun hHeld => ?_)
          clear hK K
          (try simp only [Act.put, List.setIfInBounds_toArray, List.set_cons_zero, List.set_cons_succ])
          refine wpAnyH_take (i := 30) (oi := { dst := some 111, op := Op.unOp UnOp.not 4 (Operand.tmp 110), type := 4, pos := "own.go:95", after := #[{ on := 29, ground := Ground.data }, { on := 19, ground := Ground.guard }], guard := some (19, true) }) (v := ?vb30) rfl (by kernel_rfl) (by kernel_rfl) (by kernel_rfl) (fun _ _ _ h => h) (Or.inl ⟨by kernel_rfl, ?hyb30⟩) (by assumption) ?restb30
          case hyb30 => (intro w hSw; (try dsimp only at hSw); go_simp <;> with_reducible rfl)
          (try simp only [Act.put, List.setIfInBounds_toArray, List.set_cons_zero, List.set_cons_succ])
          refine wpAnyH_take (i := 31) (oi := { dst := some 112, op := Op.pick (Operand.tmp 100) (Operand.tmp 111) (Operand.const (Value.bool false)), type := 4, pos := "own.go:95", after := #[{ on := 19, ground := Ground.data }, { on := 30, ground := Ground.data }, { on := 14, ground := Ground.guard }], guard := some (14, false) }) (v := ?vb31) rfl (by kernel_rfl) (by kernel_rfl) (by kernel_rfl) (fun _ _ _ h => h) (Or.inl ⟨by kernel_rfl, ?hyb31⟩) (by assumption) ?restb31
          case hyb31 => (intro w hSw; (try dsimp only at hSw); go_simp <;> with_reducible rfl)
          (try simp only [Act.put, List.setIfInBounds_toArray, List.set_cons_zero, List.set_cons_succ])
          refine wpAnyH_take (i := 32) (oi := { dst := some 113, op := Op.pick (Operand.tmp 95) (Operand.const (Value.bool true)) (Operand.tmp 112), type := 4, pos := "own.go:95", after := #[{ on := 14, ground := Ground.data }, { on := 31, ground := Ground.data }], guard := none }) (v := ?vb32) rfl (by kernel_rfl) (by kernel_rfl) (by kernel_rfl) (fun _ _ _ h => h) (Or.inl ⟨by kernel_rfl, ?hyb32⟩) (by assumption) ?restb32
          case hyb32 => (intro w hSw; (try dsimp only at hSw); go_simp <;> with_reducible rfl)
          (try simp only [Act.put, List.setIfInBounds_toArray, List.set_cons_zero, List.set_cons_succ])
          refine wpAnyH_done (by kernel_rfl) ?_ _
          all_goals
            have B7 := Lib.hid (B6.out.trans (HK18.out.1.mono B6.out.size))
            clear HK18 HK21 HK12 KA KB KI D0 x0 x1 x2 y0 y1 y2
            go_wp2_with fail
            go_roundw
            case rel => exact ⟨k + 1, by omega, by go_num, B7⟩
            case measure => simp [intOf]; omega
      · have hki : ¬ (k : Int) < M3 := by have := HM.out; omega
        go_wp2_with fail
        go_ret
        exact ⟨rfl, B4.out.trans (B6.out.mono B4.out.size)⟩

theorem joins_true (a b : ByteArray) (w : World) (g : Good w) (pw : PowIn w) : Calls Tryz.prog 6 #[.string a, .string b] w fun e w' => e = .returned (.bool true) ∧ Below w.heap.size w w' := by
  by_cases hl : 1024 < a.size ∨ 1024 < b.size
  · exact joins_long a b w g pw hl
  · obtain ⟨r, hr⟩ : ∃ r, parseR a.data.toList = r := ⟨_, rfl⟩
    cases r with
    | bad p er => exact joins_bad a b p er w g pw (by omega) (by omega) (Lib.hid hr)
    | ok ta ka =>
      obtain ⟨r2, hr2⟩ : ∃ r, parseR b.data.toList = r := ⟨_, rfl⟩
      cases r2 with
      | bad p er => exact joins_bad2 a b ta ka p er w g pw (by omega) (by omega) (Lib.hid hr) (Lib.hid hr2)
      | ok tb kb =>
        obtain ⟨tc, kb', h3, he⟩ := parse_two hr hr2 (by rw [len_size, len_size]; omega)
        rw [← cat_list] at h3
        exact joins_ok a b ta tb tc ka kb _ kb' w g pw (by omega) (by omega) (Lib.hid hr) (Lib.hid hr2) (Lib.hid h3) (Lib.hid rfl) (Lib.hid he)

end Go.Proofs.YtfbejfoalnhihaaGreatDoor

/-
  PROVED: ParseJoins answers true at every two texts, and they read as they did: of two sources, one behind the other, the program has the declarations of both, in order. Conditions: the card's own (the listed variables hold what the program's text lays).
-/
namespace Go.Proofs.YtfbejfoalnhihaaGreatDoor
open Go.ChangeShapes Go.WideShapes Go.ChangeAt Go.RowKit
open Go.ChangeMaps (open_string shut_string)
namespace ParseJoins

set_option maxRecDepth 100000 in
/-- WHAT THE WALK GIVES, FOR EVERY ARGUMENT AND EVERY WORLD THAT HOLDS THE LISTED VARIABLES: the same for both forms. -/
theorem contract (H : Type) (enc : TypeId × Value → H) (W : World) (base : Nat) (args : Array Value) (ds gs : List (DataW H)) (before : List MemPlace)
    (hval : ∀ (j : Nat) t v, Tryz.f6.params[j]? = some t → args[j]? = some v → Value.okWide Tryz.prog W .any base t v)
    (hW : DataW.Whole enc Tryz.prog Tryz.f6.params.toList Rows.parseJoinsSpec.vars false W args.toList ds gs before)
    (hsz0 : (DataW.weightsEach Tryz.prog (Tryz.f6.params.toList ++ (OpenSpec.ofChange Rows.parseJoinsSpec).bare.plain.varTypes Tryz.prog) (ds ++ gs)).all (· ≤ reachBytes) = true)
    (hL : laidMetH Tryz.prog Rows.parseJoinsRow.laid W) :
    Calls Tryz.prog 6 args W fun e W' => ∃ v, e = .returned v ∧ Rows.parseJoinsSpec.post enc Tryz.prog Tryz.f6 false true false false W args v W' := by
  have hW' := hW
  obtain ⟨p, q, hA0, hV, rfl, hfz, hnd⟩ := hW
  have hA : DataW.TrodAll enc Tryz.prog W 0 (fun _ => true) true Tryz.f6.params.toList args.toList ds p := hA0
  have hsz : (DataW.weightsEach Tryz.prog (Tryz.f6.params.toList ++ Rows.parseJoinsSpec.plain.varTypes Tryz.prog) (ds ++ gs)).all (· ≤ reachBytes) = true := hsz0
  clear hsz0
  rw [Tryz.params6] at hA hval hsz
  obtain ⟨v0, vs0, d0, ds0, p0, q0, hargs, rfl, rfl, h0, r0⟩ := trodAll_cons hA
  obtain ⟨v1, vs1, d1, ds1, p1, q1, rfl, rfl, rfl, h1, r1⟩ := trodAll_cons r0
  obtain ⟨rfl, rfl, rfl⟩ := trodAll_nil r1
  obtain rfl : args = #[v0, v1] := by cases args; simp_all
  obtain ⟨rfl, rfl⟩ := trodVars_none hV
  obtain ⟨x0, rfl, rfl, rfl, hs0⟩ := open_string Tryz.underlying9 (hval 0 9 v0 rfl rfl) h0
  have l0 : x0.size ≤ 281474976710656 := by
    have k1 := sized_string hsz (j := 0) (t := 9) rfl rfl
    have k2 := reachBytes_lt
    have e1 : x0.size = x0.data.size := rfl
    have e2 : x0.data.toList.length = x0.data.size := Array.length_toList
    have e3 : (2 : Nat) ^ 47 = 140737488355328 := by decide
    omega
  obtain ⟨x1, rfl, rfl, rfl, hs1⟩ := open_string Tryz.underlying9 (hval 1 9 v1 rfl rfl) h1
  have l1 : x1.size ≤ 281474976710656 := by
    have k1 := sized_string hsz (j := 1) (t := 9) rfl rfl
    have k2 := reachBytes_lt
    have e1 : x1.size = x1.data.size := rfl
    have e2 : x1.data.toList.length = x1.data.size := Array.length_toList
    have e3 : (2 : Nat) ^ 47 = 140737488355328 := by decide
    omega
  clear hA0
  simp only [List.append_nil] at hW'
  have GP := good_of hL
  have walk : Calls Tryz.prog 6 #[.string x0, .string x1] W fun e w' => e = .returned (.bool true) ∧ Below W.heap.size W w' := joins_true x0 x1 W GP.1 GP.2
  refine walk.mono fun e W' ⟨he, hb⟩ => ?_
  subst he
  refine ⟨_, rfl, _, _, _, [], [], [], hW', ?_, ?_, rfl, hb.frame _, fun h => by cases h⟩
  · exact trodAll_cons_mk (shut_bool Tryz.underlying4 _) trodAll_mk0
  · exact trodAll_cons_mk (shut_string Tryz.underlying9 hs0) (trodAll_cons_mk (shut_string Tryz.underlying9 hs1) trodAll_mk0)

theorem reads (os : Os) {H : Type} (enc : TypeId × Value → H) : ∃ places, DataW.whole enc Tryz.prog ((World.doorLaid Tryz.prog 77 os).forCall (fun _ _ => 0) ⟨#[], #[.string ⟨#[]⟩, .string ⟨#[]⟩], []⟩).memory Tryz.f6.params.toList Rows.parseJoinsSpec.vars false #[Value.string ⟨#[]⟩, Value.string ⟨#[]⟩].toList 8 = some ([.lit (.string []), .lit (.string [])], [], places) :=
  ⟨[], by kernel_rfl⟩

set_option maxRecDepth 100000 in
theorem lifted (os : Os) (started : os.Started) (H : Type) (enc : TypeId × Value → H) (F : Stop.Interp) :
    ReturnsInHanded {} Tryz.checked os 6 .any ((OpenSpec.ofChange Rows.parseJoinsSpec).preRow enc Tryz.prog Tryz.f6 Rows.parseJoinsRow.domain false Rows.parseJoinsRow.laid) (((OpenSpec.ofChange Rows.parseJoinsSpec).at F).post enc Tryz.prog Tryz.f6 false true false false) := by
  obtain ⟨places, hx⟩ := reads os enc
  refine returnsInHanded_of_row (C := Tryz.checked) (s := OpenSpec.ofChange Rows.parseJoinsSpec) own started (by kernel_rfl) Tryz.func6
    (witness_row_atRef (enc := enc) (C := Tryz.checked) false (World.doorLaid Tryz.prog 77 os) #[.string ⟨#[]⟩, .string ⟨#[]⟩] rfl (by kernel_rfl) (by kernel_rfl) (by kernel_rfl)
      (OpenSpec.preRow_of_cond 8 hx (by kernel_rfl) (fun k hk => by cases hk) (by kernel_rfl) (door_met os _))) ?_
  intro W base args ds gs before hval hW _ _ hsz hL _ _
  exact contract H enc W base args ds gs before hval hW hsz hL

theorem said : Rows.ParseJoinsSaid :=
  OpenClaim.holds_of_cond 6 Tryz.f6 rfl rfl rfl rfl rfl rfl rfl ⟨rfl, rfl, rfl, rfl, rfl⟩ rfl rfl rfl rfl rfl (by kernel_rfl) Tryz.func6 (by kernel_rfl)
    (of_decide_eq_true (by kernel_rfl)) (by unfold Func.isWrapper; first | (rw [if_pos (by decide +kernel)]; kernel_rfl) | (rw [if_neg (by decide +kernel)]; exact ⟨rfl, rfl⟩))
    (fun os started H enc _ F => by rw [OpenClaim.pre_eq_preRow]; exact lifted os started H enc F)

/-- No parameter wants a stand-in: what the card asks. -/
theorem plain (f : FuncId) (fn : Func) (hf : Tryz.pinned.checked.prog.funcNamed Rows.parseJoinsRow.func = some f) (hfn : Tryz.pinned.checked.prog.funcs[f]? = some fn) :
    true = Tryz.pinned.checked.prog.looks [] ∧ ∀ (j : Nat) t, fn.params[j]? = some t → Tryz.pinned.checked.prog.wantsStandIn t = false := by
  obtain rfl : f = 6 := Option.some.inj ((show Tryz.prog.funcNamed Rows.parseJoinsRow.func = some 6 by kernel_rfl).symm.trans hf) |>.symm
  obtain rfl : fn = Tryz.f6 := (Option.some.inj (Tryz.func6.symm.trans hfn)).symm
  refine ⟨by kernel_rfl, fun j t ht => ?_⟩
  rw [Tryz.params6] at ht
  have hm : t ∈ [9, 9] := by simpa using Array.mem_of_getElem? ht
  have hall : ([9, 9].all fun u => !Tryz.prog.wantsStandIn u) = true := by kernel_rfl
  exact (show Tryz.prog.wantsStandIn t = false by simpa using List.all_eq_true.1 hall t hm)

end ParseJoins

/-- THE CARD. -/
theorem parseJoins_card : Rows.ParseJoinsCardSaid :=
  Claim7.holds_tied_plain_at .later [] _ _ _ _ ParseJoins.said (fun _ h => by cases h) (by kernel_rfl) (fun _ h => by cases h) parseJoins_row_tie rfl ⟨rfl, rfl⟩ (by kernel_rfl) rfl ParseJoins.plain (by kernel_rfl)

end Go.Proofs.YtfbejfoalnhihaaGreatDoor
