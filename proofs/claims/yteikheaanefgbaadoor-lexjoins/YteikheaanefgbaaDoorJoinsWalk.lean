/-
  LexJoins: THE LAW's CONTRACT: it answers true for every two texts, in a world in which the listed variables lie as the program's text lays them; of what was there nothing has turned.
-/
import Derived.Test.YteikheaanefgbaaDoorPlacesWalk
import Derived.Test.YteikheaanefgbaaDoorMath2
import Derived.Laws.StructEq
namespace Go.Proofs.YteikheaanefgbaaDoor
open Go.RowKit

theorem scan_some (s : ByteArray) (w : World) (G : Good w) (hs : s.size ≤ 4096) :
    Calls Tryd.prog 8 #[.string s] w fun e w' => ∃ v p er, e = .returned (.tuple #[v, .int .i64 p, .int .i64 er]) ∧ Below w.heap.size w w' := by
  cases h : sc s.data.toList 0 with
  | bad p er =>
    refine (scan_err s p er w G hs (Lib.hid h)).mono ?_
    rintro e w' ⟨rfl, hb⟩
    exact ⟨_, _, _, rfl, hb⟩
  | ok ts =>
    refine (scan_ok s ts w G hs (Lib.hid h)).mono ?_
    rintro e w' ⟨A, c, rfl, _, _, hb⟩
    exact ⟨_, _, _, rfl, hb⟩
theorem cat_list (a b : ByteArray) : (a ++ (⟨#[10]⟩ : ByteArray) ++ b).data.toList = a.data.toList ++ 10 :: b.data.toList := by
  rw [ByteArray.data_append, ByteArray.data_append]; simp
theorem cat_size (a b : ByteArray) : (a ++ (⟨#[10]⟩ : ByteArray) ++ b).size = a.size + 1 + b.size := by
  rw [← len_size, cat_list, List.length_append, List.length_cons, len_size, len_size]; omega

set_option maxRecDepth 100000 in
set_option maxHeartbeats 1000000 in
theorem joins_bad (a b : ByteArray) (p er : Nat) (w : World) (G : Good w) (ha : a.size ≤ 2047) (hb : b.size ≤ 2048) (h : Hid (sc a.data.toList 0 = .bad p er)) :
    Calls Tryd.prog 5 #[.string a, .string b] w fun e w' => e = .returned (.bool true) ∧ Below w.heap.size w w' := by
  have i1 : ¬ (2047 : Int) < (a.size : Int) := by omega
  have i2 : ¬ (2048 : Int) < (b.size : Int) := by omega
  obtain ⟨hp, he⟩ := sc_bad_lt a.data.toList _ 0 p er (Nat.le_refl _) h.out
  have he1 : ((er : Int) != 0) = true := by simpa using he
  have hz : sc (a ++ (⟨#[10]⟩ : ByteArray) ++ b).data.toList 0 = .bad p er := by
    rw [cat_list, scan_two, h.out]; rfl
  have hsz := cat_size a b
  have HSZ := Lib.hid hsz
  have HZ := Lib.hid hz
  clear hz he hp hsz
  go_enter Tryd.func5, Tryd.ntmps5
  go_wp2_with fail
  refine (awake_true w G).mono ?_
  rintro e w1 ⟨rfl, b1⟩
  have G1 := G.below b1
  clear G
  go_wp2_with fail
  refine (scan_err a p er _ G1 (by omega) h).mono ?_
  rintro e w2 ⟨rfl, b2⟩
  have G2 := G1.below b2
  have d2 := b1.trans (b2.mono b1.size)
  clear b1 b2 G1
  go_wp2_with fail
  refine (scan_some b _ G2 (by omega)).mono ?_
  rintro e w3 ⟨v, bp, be, rfl, b3⟩
  have G3 := G2.below b3
  have d3 := d2.trans (b3.mono d2.size)
  clear b3 d2 G2
  go_wp2_with fail
  refine (scan_err _ p er _ G3 (by have := HSZ.out; omega) HZ).mono ?_
  rintro e w4 ⟨rfl, b4⟩
  have d4 := d3.trans (b4.mono d3.size)
  clear b4 d3 G3
  go_wp2_with fail
  go_ret
  exact ⟨rfl, d4⟩

set_option maxRecDepth 100000 in
set_option maxHeartbeats 1000000 in
theorem joins_bad2 (a b : ByteArray) (ta : List Tok) (p er : Nat) (w : World) (G : Good w) (ha : a.size ≤ 2047) (hb : b.size ≤ 2048) (h : Hid (sc a.data.toList 0 = .ok ta)) (h2 : Hid (sc b.data.toList 0 = .bad p er)) :
    Calls Tryd.prog 5 #[.string a, .string b] w fun e w' => e = .returned (.bool true) ∧ Below w.heap.size w w' := by
  have i1 : ¬ (2047 : Int) < (a.size : Int) := by omega
  have i2 : ¬ (2048 : Int) < (b.size : Int) := by omega
  obtain ⟨hp, he⟩ := sc_bad_lt b.data.toList _ 0 p er (Nat.le_refl _) h2.out
  rw [len_size] at hp
  have he1 : ((er : Int) != 0) = true := by simpa using he
  have hz : sc (a ++ (⟨#[10]⟩ : ByteArray) ++ b).data.toList 0 = .bad (p + (a.size + 1)) er := by
    rw [cat_list, scan_two, h.out, h2.out, len_size]; rfl
  have hsz := cat_size a b
  have HSZ := Lib.hid hsz
  have HZ := Lib.hid hz
  obtain ⟨n, hn⟩ : ∃ n, ta.length = n := ⟨_, rfl⟩
  clear hz he hsz
  go_enter Tryd.func5, Tryd.ntmps5
  go_wp2_with fail
  refine (awake_true w G).mono ?_
  rintro e w1 ⟨rfl, b1⟩
  have G1 := G.below b1
  clear G
  go_wp2_with fail
  refine (scan_ok a ta _ G1 (by omega) h).mono ?_
  rw [hn]
  rintro e w2 ⟨A, c, rfl, _, _, b2⟩
  have G2 := G1.below b2
  have d2 := b1.trans (b2.mono b1.size)
  clear b1 b2 G1 hn
  go_wp2_with fail
  refine (scan_err b p er _ G2 (by omega) h2).mono ?_
  rintro e w3 ⟨rfl, b3⟩
  have G3 := G2.below b3
  have d3 := d2.trans (b3.mono d2.size)
  clear b3 d2 G2
  go_wp2_with fail
  refine (scan_err _ (p + (a.size + 1)) er _ G3 (by have := HSZ.out; omega) HZ).mono ?_
  rintro e w4 ⟨rfl, b4⟩
  have d4 := d3.trans (b4.mono d3.size)
  clear b4 d3 G3
  have hpl : ((p + (a.size + 1) : Nat) : Int) = (p : Int) + (a.size : Int) + 1 := by omega
  rw [hpl]
  clear hpl
  go_wp2_with fail
  go_ret
  exact ⟨rfl, d4⟩

theorem chain_at (l : List UInt8) (ts : List Tok) : ∀ e : Nat, Chain l e ts → ∀ (i : Nat) (t : Tok), ts[i]? = some t → t.place ≤ l.length := by
  induction ts with
  | nil => intro e _ i t h; simp at h
  | cons u r ih =>
    intro e h i t ht
    obtain ⟨_, _, h3, _, h5⟩ := h
    cases i with
    | zero =>
      have : u = t := by simpa using ht
      subst this
      omega
    | succ i => exact ih _ h5 i t (by simpa using ht)
def ZRel (n : Nat) (w : World) (A B C : Option Addr) (ta tb tz : List Tok) (i : Value) (wr : World) : Prop :=
  ∃ k : Nat, k ≤ n ∧ i = .int .i64 k ∧ Hid (TR wr A ta) ∧ Hid (TR wr B tb) ∧ Hid (TR wr C tz) ∧ Below w.heap.size w wr

set_option maxRecDepth 100000 in
set_option maxHeartbeats 1000000 in
theorem joins_ok (a b : ByteArray) (ta tb : List Tok) (w : World) (G : Good w) (ha : a.size ≤ 2047) (hb : b.size ≤ 2048) (h : Hid (sc a.data.toList 0 = .ok ta)) (h2 : Hid (sc b.data.toList 0 = .ok tb)) :
    Calls Tryd.prog 5 #[.string a, .string b] w fun e w' => e = .returned (.bool true) ∧ Below w.heap.size w w' := by
  have i1 : ¬ (2047 : Int) < (a.size : Int) := by omega
  have i2 : ¬ (2048 : Int) < (b.size : Int) := by omega
  obtain ⟨tz, htz⟩ : ∃ tz, tz = ta ++ tb.map (moved (a.size + 1)) := ⟨_, rfl⟩
  have hz : sc (a ++ (⟨#[10]⟩ : ByteArray) ++ b).data.toList 0 = .ok tz := by
    rw [cat_list, scan_two, h.out, h2.out, len_size, htz]; rfl
  have hsz := cat_size a b
  have HSZ := Lib.hid hsz
  have HZ := Lib.hid hz
  obtain ⟨na, hna⟩ : ∃ n, ta.length = n := ⟨_, rfl⟩
  obtain ⟨nb, hnb⟩ : ∃ n, tb.length = n := ⟨_, rfl⟩
  have hnz : tz.length = na + nb := by rw [htz, List.length_append, List.length_map, hna, hnb]
  have hla := (sc_chain a.data.toList _ 0 ta (Nat.le_refl _) (Nat.zero_le _) h.out).2.2
  have hcb := sc_chain b.data.toList _ 0 tb (Nat.le_refl _) (Nat.zero_le _) h2.out
  have hlb := hcb.2.2
  rw [len_size] at hla hlb
  have HCB := Lib.hid hcb.1
  have HNA := Lib.hid hna
  have HNB := Lib.hid hnb
  have HNZ := Lib.hid hnz
  have HTZ := Lib.hid htz
  have hna2 : na ≤ 2047 := by omega
  have hnb2 : nb ≤ 2048 := by omega
  clear hz hsz htz hcb hla hlb
  go_enter Tryd.func5, Tryd.ntmps5
  go_wp2_with fail
  refine (awake_true w G).mono ?_
  rintro e w1 ⟨rfl, b1⟩
  have G1 := G.below b1
  clear G
  go_wp2_with fail
  refine (scan_ok a ta _ G1 (by omega) h).mono ?_
  rw [hna]
  rintro e w2 ⟨A, c, rfl, hc1, hA, b2⟩
  have G2 := G1.below b2
  have d2 := b1.trans (b2.mono b1.size)
  have HA2 := Lib.hid hA
  clear b1 b2 G1 hna hA
  go_wp2_with fail
  refine (scan_ok b tb _ G2 (by omega) h2).mono ?_
  rw [hnb]
  rintro e w3 ⟨B, c', rfl, hc2, hB, b3⟩
  have G3 := G2.below b3
  have d3 := d2.trans (b3.mono d2.size)
  have HA3 := Lib.hid (HA2.out.below b3)
  have HB3 := Lib.hid hB
  clear b3 d2 G2 hnb hB HA2
  go_wp2_with fail
  refine (scan_ok _ tz _ G3 (by have := HSZ.out; omega) HZ).mono ?_
  rw [hnz]
  rintro e w4 ⟨C, c'', rfl, hc3, hC, b4⟩
  have d4 := d3.trans (b4.mono d3.size)
  have HA4 := Lib.hid (HA3.out.below b4)
  have HB4 := Lib.hid (HB3.out.below b4)
  have HC4 := Lib.hid hC
  clear b4 d3 G3 hnz hC HA3 HB3
  go_wp2_with fail
  go_loopw [14] (fun i wr => ZRel (na + nb) w A B C ta tb tz i wr) (fun i _ => na + nb - (intOf i).toNat)
  case atStart => exact ⟨0, Nat.zero_le _, rfl, HA4, HB4, HC4, d4⟩
  case round =>
    obtain ⟨k, hk, rfl, HA5, HB5, HC5, d5⟩ := hrel
    by_cases hlt : k < na + nb
    · obtain ⟨gz, rfl, hgz, hcz⟩ := HC5.out (by have := HNZ.out; omega)
      have hkz : k < tz.length := by have := HNZ.out; omega
      obtain ⟨z0, z1, z2⟩ := hcz k tz[k] (List.getElem?_eq_getElem hkz)
      by_cases hka : k < na
      · obtain ⟨ga, rfl, hga, hca⟩ := HA5.out (by have := HNA.out; omega)
        have hkl : k < ta.length := by have := HNA.out; omega
        obtain ⟨x0, x1, x2⟩ := hca k ta[k] (List.getElem?_eq_getElem hkl)
        have hzk : tz[k] = ta[k] := by
          have : tz[k]? = ta[k]? := by rw [HTZ.out, List.getElem?_append_left hkl]
          rw [List.getElem?_eq_getElem hkz, List.getElem?_eq_getElem hkl] at this
          exact Option.some.inj this
        rw [hzk] at z0 z1 z2
        generalize ta[k] = t at z0 z1 z2 x0 x1 x2
        obtain ⟨tk, tt, tp⟩ := t
        simp only at z0 z1 z2 x0 x1 x2
        generalize (⟨tt.toArray⟩ : ByteArray) = y at z1 x1
        have HCA := Lib.hid hca
        have HCZ := Lib.hid hcz
        clear hzk hkl hkz hca hcz
        go_wp2_with fail
        go_quiet (fail)
        go_wp2_with fail
        have bb : Below wr.heap.size wr ((wr.alloc (Obj.cells #[Value.int IntKind.i64 ↑tk, Value.string y, Value.int IntKind.i64 ↑tp] 32)).drewN nq) := below_drewN ((Below.refl _ _).alloc (Nat.le_refl _) _) _
        refine ⟨⟨k + 1, by omega, by go_num, HA5.out.below bb, HB5.out.below bb, HC5.out.below bb, d5.trans (bb.mono d5.size)⟩, ?_⟩
        simp [intOf]; omega
      · obtain ⟨j, rfl⟩ : ∃ j, k = na + j := ⟨k - na, by omega⟩
        obtain ⟨gb, rfl, hgb, hcb⟩ := HB5.out (by have := HNB.out; omega)
        have hjl : j < tb.length := by have := HNB.out; omega
        obtain ⟨x0, x1, x2⟩ := hcb j tb[j] (List.getElem?_eq_getElem hjl)
        have hpl := chain_at b.data.toList tb 0 HCB.out j tb[j] (List.getElem?_eq_getElem hjl)
        rw [len_size] at hpl
        have hzk : tz[na + j] = moved (a.size + 1) tb[j] := by
          have : tz[na + j]? = some (moved (a.size + 1) tb[j]) := by
            rw [HTZ.out, List.getElem?_append_right (by have := HNA.out; omega), HNA.out, show na + j - na = j by omega, List.getElem?_map, List.getElem?_eq_getElem hjl]; rfl
          rw [List.getElem?_eq_getElem hkz] at this
          exact Option.some.inj this
        rw [hzk] at z0 z1 z2
        generalize tb[j] = t at z0 z1 z2 x0 x1 x2 hpl
        obtain ⟨tk, tt, tp⟩ := t
        simp only [moved] at z0 z1 z2 x0 x1 x2 hpl
        rw [show ((tp + (a.size + 1) : Nat) : Int) = (tp : Int) + (a.size : Int) + 1 by omega] at z2
        generalize (⟨tt.toArray⟩ : ByteArray) = y at z1 x1
        have hj2 : j < nb := by omega
        have HCB2 := Lib.hid hcb
        have HCZ := Lib.hid hcz
        clear hzk hjl hkz hcb hcz
        go_wp2_with fail
        go_quiet (fail)
        go_wp2_with fail
        have bb : Below wr.heap.size wr ((wr.alloc (Obj.cells #[Value.int IntKind.i64 ↑tk, Value.string y, Value.int IntKind.i64 (↑tp + ↑a.size + 1)] 32)).drewN nq) := below_drewN ((Below.refl _ _).alloc (Nat.le_refl _) _) _
        refine ⟨⟨na + j + 1, by omega, by go_num, HA5.out.below bb, HB5.out.below bb, HC5.out.below bb, d5.trans (bb.mono d5.size)⟩, ?_⟩
        simp [intOf]; omega
    · go_wp2_with fail
      go_ret
      exact ⟨rfl, d5⟩

set_option maxRecDepth 100000 in
set_option maxHeartbeats 1000000 in
theorem joins_long (a b : ByteArray) (w : World) (G : Good w) (h : 2047 < a.size ∨ 2048 < b.size) :
    Calls Tryd.prog 5 #[.string a, .string b] w fun e w' => e = .returned (.bool true) ∧ Below w.heap.size w w' := by
  by_cases ha : 2047 < a.size
  · have i1 : (2047 : Int) < (a.size : Int) := by omega
    clear h
    go_enter Tryd.func5, Tryd.ntmps5
    go_wp2_with fail
    refine (awake_true w G).mono ?_
    rintro e w1 ⟨rfl, b1⟩
    go_wp2_with fail
    go_ret
    exact ⟨rfl, b1⟩
  · have i1 : ¬ (2047 : Int) < (a.size : Int) := by omega
    have i2 : (2048 : Int) < (b.size : Int) := by omega
    clear h
    go_enter Tryd.func5, Tryd.ntmps5
    go_wp2_with fail
    refine (awake_true w G).mono ?_
    rintro e w1 ⟨rfl, b1⟩
    go_wp2_with fail
    go_ret
    exact ⟨rfl, b1⟩
theorem joins_walk (a b : ByteArray) (w : World) (G : Good w) : Calls Tryd.prog 5 #[.string a, .string b] w fun e w' => e = .returned (.bool true) ∧ Below w.heap.size w w' := by
  by_cases h : 2047 < a.size ∨ 2048 < b.size
  · exact joins_long a b w G h
  · have ha : a.size ≤ 2047 := by omega
    have hb : b.size ≤ 2048 := by omega
    cases h1 : sc a.data.toList 0 with
    | bad p er => exact joins_bad a b p er w G ha hb h1
    | ok ta =>
      cases h2 : sc b.data.toList 0 with
      | bad p er => exact joins_bad2 a b ta p er w G ha hb h1 h2
      | ok tb => exact joins_ok a b ta tb w G ha hb h1 h2

end Go.Proofs.YteikheaanefgbaaDoor
