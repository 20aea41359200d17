/-
  CONTRACT: Reach of package kind at rows of at most 16 structs of at most 12 fields: the names of those that are reached, in new memory. Of what was there nothing has turned.
-/
import Derived.Test.YtpjfooghiclccaaDoorLinks
import Derived.Test.YtpjfooghiclccaaDoorRch
namespace Go.Proofs.YtpjfooghiclccaaDoor
open Go.RowKit

def strsOf (l : List ByteArray) : List Value := l.map fun t => .string t
def boolsOf (l : List Bool) : List Value := l.map fun b => .bool b
theorem str_info : (Tryd.prog.info? 9).map (fun i => (i.zero, i.size, i.bytes)) = some (some (.string ⟨#[]⟩), 1, 16) := by kernel_rfl
theorem bool_info : (Tryd.prog.info? 4).map (fun i => (i.zero, i.size, i.bytes)) = some (some (.bool false), 1, 1) := by kernel_rfl
def lenV : Value → Nat | .slice _ n _ => n | _ => 0
def notYet (w : World) (g i : Nat) : Bool := match w.cell? ⟨g, i, none⟩ with | some (.bool true) => false | _ => true
def cntW (w : World) (g m : Nat) : Nat := ((List.range m).filter (notYet w g)).length
def Fl (w : World) (g m : Nat) (fl : List Bool) : Prop := fl.length = m ∧ w.ownsRow g 4 1 (.slice (some ⟨g, 0, none⟩) m m) m (boolsOf fl)
theorem Fl.cell {w : World} {g m : Nat} {fl : List Bool} (h : Fl w g m fl) {i : Nat} {b : Bool} (hb : fl[i]? = some b) : w.cell? ⟨g, i, none⟩ = some (.bool b) := by
  have hi : i < m := by rw [← h.1]; exact (List.getElem?_eq_some_iff.1 hb).1
  rw [h.2.cellAt i (by omega)]
  unfold boolsOf
  rw [List.getElem?_map, hb]; rfl
theorem Fl.cnt {w : World} {g m : Nat} {fl : List Bool} (h : Fl w g m fl) : cntW w g m = fl.count false := by
  unfold cntW
  rw [count_range fl (notYet w g) m (by rw [h.1]; exact Nat.le_refl _) (fun i b hi hb => by unfold notYet; rw [h.cell hb]; cases b <;> rfl), List.take_of_length_le (by rw [h.1]; exact Nat.le_refl _)]
theorem Fl.lt {w : World} {g m : Nat} {fl : List Bool} (h : Fl w g m fl) : g < w.heap.size := (h.2.lt g rfl).2

theorem own_mono {w : World} {base base' : Nat} {e : TypeId} {size : Nat} {v : Value} {n : Nat} {xs : List Value} (h : w.ownsRow base e size v n xs) (hb : base' ≤ base) : w.ownsRow base' e size v n xs := by
  refine ⟨h.1, ?_⟩
  rcases h.2 with h2 | ⟨g, cap, cur, h2, h3, h4⟩
  · exact .inl h2
  · exact .inr ⟨g, cap, cur, h2, Nat.le_trans hb h3, h4⟩
theorem own_short {w : World} {base : Nat} {e : TypeId} {g n cap : Nat} {xs : List Value} {x : Value} (h : w.ownsRow base e 1 (.slice (some ⟨g, 0, none⟩) (n + 1) cap) (n + 1) (xs ++ [x])) : w.ownsRow base e 1 (.slice (some ⟨g, 0, none⟩) n cap) n xs := by
  obtain ⟨h1, h2⟩ := h
  have hl : xs.length = n := by simpa using h1
  refine ⟨by omega, .inr ?_⟩
  rcases h2 with ⟨h2, _⟩ | ⟨g', cap', cur, h2, h3, h4, h5, h6, h7, h8⟩
  · cases h2
  · injection h2 with e1 e2 e3
    injection e1 with e1
    injection e1 with e1
    subst e1
    subst e3
    refine ⟨g, cap, cur, rfl, h3, h4, by omega, h6, h7, ?_⟩
    have := congrArg (List.take n) h8
    rw [List.take_take, show min n ((n + 1) * 1) = n by omega, List.take_append_of_le_length (by omega), List.take_of_length_le (l := xs) (by omega)] at this
    rw [Nat.mul_one]; exact this
theorem own_cap {w : World} {base : Nat} {e : TypeId} {size g n cap : Nat} {xs : List Value} (h : w.ownsRow base e size (.slice (some ⟨g, 0, none⟩) n cap) n xs) : n ≤ cap ∧ base ≤ g ∧ g < w.heap.size := by
  obtain ⟨a, b⟩ := h.lt g rfl
  refine ⟨?_, a, b⟩
  rcases h.2 with ⟨h2, _⟩ | ⟨g', cap', cur, h2, h3, h4, h5, h6⟩
  · cases h2
  · injection h2 with e1 e2 e3
    omega
theorem Fl.below {w w' : World} {g m : Nat} {fl : List Bool} (h : Fl w g m fl) (hb : Below w.heap.size w w') : Fl w' g m fl := ⟨h.1, own_below h.2 hb⟩
theorem Fl.grown {w w' : World} {g m : Nat} {fl : List Bool} {row : Option Nat} (h : Fl w g m fl) (hg : w.grownBy w' row) (hne : row ≠ some g) : Fl w' g m fl :=
  ⟨h.1, h.2.kept hg (Or.inr (fun e => hne e.symm))⟩
theorem Fl.set {w : World} {g m : Nat} {fl : List Bool} (h : Fl w g m fl) (j : Nat) : Fl (w.setCell ⟨g, j, none⟩ (.bool true)) g m (fl.set j true) := by
  refine ⟨by rw [List.length_set]; exact h.1, ?_⟩
  have := (h.2.stored j (.bool true)).1
  unfold boolsOf at this ⊢
  rw [List.map_set]; exact this
def RRel (w : World) (ss : List Str) (t : ByteArray) (g m : Nat) (v : Value) (wr : World) : Prop :=
  ∃ (fl : List Bool) (ws : List ByteArray) (q : Nat), Hid (DfsInv ss t fl ws) ∧ Hid (ws.length = q) ∧ Hid (Fl wr g m fl) ∧ Hid (wr.ownsRow (g + 1) 9 1 v q (strsOf ws)) ∧ fl.count false * 13 + q ≤ 209 ∧ Below g w wr

/-- The slice reads as these numbers. -/
def IR (w : World) (A : Option Addr) (ls : List Nat) : Prop := 0 < ls.length → ∃ g, A = some ⟨g, 0, none⟩ ∧ g < w.heap.size ∧ ∀ (k : Nat) (p : Nat), ls[k]? = some p → w.cell? ⟨g, k, none⟩ = some (.int .i64 p)
theorem ir_own {w : World} {base : Nat} {v : Value} {ls : List Nat} (h : w.ownsRow base 3 1 v ls.length (intsOf ls)) : ∃ A c, v = .slice A ls.length c ∧ ls.length ≤ c ∧ IR w A ls ∧ ∀ a, A = some a → base ≤ a.block := by
  rcases h.2 with ⟨rfl, h0⟩ | ⟨g, cap, cur, rfl, h1, h2, h3, h4⟩
  · exact ⟨none, 0, by rw [h0], by omega, fun h => by omega, fun a ha => by cases ha⟩
  · refine ⟨_, cap, rfl, h3, fun _ => ⟨g, rfl, (h.lt g rfl).2, fun k p hp => ?_⟩, fun a ha => by obtain rfl := Option.some.inj ha; exact h1⟩
    rw [h.cellAt k (by have := (List.getElem?_eq_some_iff.1 hp).1; omega)]
    unfold intsOf
    rw [List.getElem?_map, hp]; rfl
theorem links_fld {fs : List Fld} {n : Nat} : ∀ (k p : Nat), (links fs n)[k]? = some p → p < n ∧ p < fs.length := by
  intro k p h
  have hm := List.mem_of_getElem? h
  unfold links at hm
  rw [List.mem_filter] at hm
  refine ⟨List.mem_range.1 hm.1, ?_⟩
  rcases Nat.lt_or_ge p fs.length with h1 | h1
  · exact h1
  · have := hm.2
    unfold linkB at this
    rw [List.getElem?_eq_none h1] at this
    cases this
def JRel (w : World) (g m q : Nat) (fl : List Bool) (ws : List ByteArray) (ls : List Nat) (fs : List Fld) (A : Option Addr) (nl : Nat) (v i : Value) (wr : World) : Prop :=
  ∃ k : Nat, k ≤ nl ∧ i = .int .i64 k ∧ Hid (wr.ownsRow (g + 1) 9 1 v (q + k) (strsOf (ws ++ (ls.take k).map (typAt fs)))) ∧ Hid (Fl wr g m fl) ∧ Hid (IR wr A ls) ∧ Hid (∀ a, A = some a → v.ownBlock ≠ some a.block) ∧ Below g w wr

def NRel (w : World) (ss : List Str) (g m : Nat) (fl : List Bool) (v i : Value) (wr : World) : Prop :=
  ∃ (k n : Nat), k ≤ m ∧ n ≤ k ∧ i = .int .i64 k ∧ Hid ((namesOf ss fl k).length = n) ∧ Hid (wr.ownsRow (g + 1) 9 1 v n (strsOf (namesOf ss fl k))) ∧ Hid (Fl wr g m fl) ∧ Below g w wr
def ReachQ (ss : List Str) (t : ByteArray) (w : World) (e : Ending) (w' : World) : Prop :=
  ∃ fl v, Flags ss t fl ∧ e = .returned v ∧ w'.ownsRow w.heap.size 9 1 v (namesOf ss fl ss.length).length (strsOf (namesOf ss fl ss.length)) ∧ Below w.heap.size w w'

set_option maxHeartbeats 400000 in
theorem reach_any (A : Option Addr) (c m : Nat) (ss : List Str) (t : ByteArray) (w : World) (hK : KeysIn w) (hR : SR w A ss) (hm : Hid (ss.length = m)) (hl : m ≤ 16) (hfl : Hid (∀ s ∈ ss, s.fields.length ≤ 12)) :
    Calls Tryd.prog 18 #[.slice A m c, .string t] w (ReachQ ss t w) := by
  obtain ⟨i0, hi0, hz0, hz1, hz2⟩ := info_parts str_info
  obtain ⟨i4, hi4, hy0, hy1, hy2⟩ := info_parts bool_info
  have HI0 := Lib.hid hi0
  have HZ0 := Lib.hid hz0
  have HZ1 := Lib.hid hz1
  have HZ2 := Lib.hid hz2
  have HI4 := Lib.hid hi4
  have HY0 := Lib.hid hy0
  have HY1 := Lib.hid hy1
  have HY2 := Lib.hid hy2
  have HR := Lib.hid hR
  have HK := Lib.hid hK
  clear hi0 hz0 hz1 hz2 hR hK hi4 hy0 hy1 hy2
  have HB2 : Hid (i4.bytes * m ≤ 281474976710656) := by show _ ≤ _; rw [HY2.out]; omega
  have HB3 : Hid (m ≤ maxLen) := by show _ ≤ _; simp only [maxLen]; omega
  go_enter Tryd.func18, Tryd.ntmps18
  go_wp2_with (refine wpList_make_full _ rfl (.tmp 16) (.tmp 16) 39 rfl w.heap.size 4 i4 _ 1 Tryd.underlying39 HI4.out HY0.out HY1.out .i64 .i64 m m m rfl rfl rfl rfl HB2.out HB3.out (Nat.le_refl _) ?_; intro w1 hown1 hg1; refine Hid.out ?_)
  have hlt1 : w.heap.size < w1.heap.size := (hown1.lt w.heap.size rfl).2
  have F1 : Hid (Fl (w1.alloc (.cells #[.string t] 9)) w.heap.size m (List.replicate m false)) := by
    refine ⟨List.length_replicate, ?_⟩
    have := hown1.alloc (.cells #[.string t] 9)
    rw [Nat.mul_one, show (Value.bool false).cells = #[.bool false] from rfl, toList_madeCells_one] at this
    unfold boolsOf
    rw [List.map_replicate]; exact this
  have O1 : Hid ((w1.alloc (.cells #[.string t] 9)).ownsRow (w.heap.size + 1) 9 1 (.slice (some ⟨w1.heap.size, 0, none⟩) 1 1) 1 (strsOf [t])) := World.ownsRow_lit w1 #[.string t] 1 (by omega) (by simp only [maxLen]; omega) rfl
  have I1 : Hid (DfsInv ss t (List.replicate m false) [t]) := by rw [← hm.out]; exact DfsInv.start ss t
  have B1 := Lib.hid (((Below.refl w.heap.size w).grown hg1 (Nat.le_refl _) (fun k hk => by cases hk)).alloc (Nat.le_of_lt hlt1) (.cells #[.string t] 9))
  clear hown1 hg1 HB2 HB3 HI4 HY0 HY1 HY2
  obtain ⟨g, hg⟩ : ∃ g, w.heap.size = g := ⟨_, rfl⟩
  rw [hg] at F1 O1 B1 ⊢
  have HG := Lib.hid hg
  clear hg
  refine Lib.hid ?_
  go_wp2_with fail
  go_loopw [6] (fun v wr => RRel w ss t g m v wr) (fun v wr => cntW wr g m * 13 + lenV v)
  case atStart => exact ⟨_, _, 1, I1, rfl, F1, O1, by rw [List.count_replicate_self]; omega, B1.out⟩
  case round =>
    obtain ⟨fl, ws, q, HI, HQ, HF, HO, hbd, hb⟩ := hrel
    have hKr := Lib.hid (HK.out.below hb (Nat.le_of_eq HG.out))
    have hgr : g ≤ wr.heap.size := by have := hb.size; have := HG.out; omega
    have hRr := Lib.hid (HR.out.below hb (Nat.le_of_eq HG.out))
    rcases q with _ | q
    · obtain rfl : ws = [] := List.length_eq_zero_iff.1 HQ.out
      have HD := Lib.hid HI.out.done
      obtain ⟨A6, c6, rfl⟩ : ∃ A6 c6, u6 = .slice A6 0 c6 := by
        rcases HO.out.2 with ⟨h, _⟩ | ⟨_, _, _, h, _⟩
        · exact ⟨none, 0, h⟩
        · exact ⟨_, _, h⟩
      clear HI HQ HO hbd
      go_wp2_with fail
      go_loopw [12, 74] (fun v i wr => NRel w ss g m fl v i wr) (fun _ i _ => m - (intOf i).toNat)
      case atStart => exact ⟨0, 0, Nat.zero_le _, Nat.le_refl _, rfl, rfl, World.ownsRow_nil _ _ _ _, HF, hb⟩
      case round =>
        obtain ⟨k, n, hk, hn, rfl, NL, NO, NF, hbn⟩ := hrel
        by_cases hlt : k < m
        · obtain ⟨lb, lo, rfl, hlb, hlc⟩ := HR.out (by have := hm.out; omega)
          obtain ⟨s, hs⟩ : ∃ s, ss[k]? = some s := ⟨_, List.getElem?_eq_getElem (by have := hm.out; omega)⟩
          obtain ⟨FA, fc, C0, C1, -, -, -⟩ := hlc k s hs
          obtain ⟨b, hfb⟩ : ∃ b, fl[k]? = some b := ⟨_, List.getElem?_eq_getElem (by rw [NF.out.1]; exact hlt)⟩
          have hlbg : lb < g := by have := HG.out; omega
          have c0 := (hbn.cell (p := ⟨lb, lo + k * 2, none⟩) hlbg).trans C0
          have c1 := (hbn.cell (p := ⟨lb, lo + k * 2 + 1, none⟩) hlbg).trans C1
          have hgn : g + 1 ≤ wr.heap.size := NF.out.lt
          have hf0 := NF.out.cell hfb
          have hf1 : (wr.alloc (.cells #[.string s.name, .slice FA s.fields.length fc] 43)).cell? ⟨g, k, none⟩ = some (.bool b) := (World.cell?_alloc_lt wr _ ⟨g, k, none⟩ (show g < wr.heap.size by omega)).trans hf0
          have ba := (Below.refl wr.heap.size wr).alloc (Nat.le_refl _) (.cells #[.string s.name, .slice FA s.fields.length fc] 43)
          have NF1 := Lib.hid (NF.out.below ba)
          have hb1 := Lib.hid (hbn.alloc (show g ≤ wr.heap.size by omega) (.cells #[.string s.name, .slice FA s.fields.length fc] 43))
          clear hlc C0 C1 ba hf0
          cases b with
          | false =>
            have HN := Lib.hid (names_no (ss := ss) hfb)
            clear hfb hs
            obtain ⟨sn, fs⟩ := s
            simp only at c0 c1 NF1 hb1 hf1
            generalize fs.length = fm at c1 NF1 hb1 hf1
            go_wp2_with fail
            go_roundw
            case rel => exact ⟨k + 1, n, by omega, by omega, by go_num, by show _ = _; rw [HN.out]; exact NL.out, by show World.ownsRow _ _ _ _ _ _ _; rw [HN.out]; exact NO.out.alloc _, NF1, hb1.out⟩
            case measure => simp [intOf]; omega
          | true =>
            have HN := Lib.hid (names_yes hfb hs)
            clear hfb hs
            obtain ⟨sn, fs⟩ := s
            simp only at c0 c1 NF1 hb1 hf1 HN
            generalize fs.length = fm at c1 NF1 hb1 hf1
            go_wp2_with (at_builtin; refine Hid.out ?_)
            refine Lib.hid ?_
            refine wpList_append_lies _ rfl (.tmp 83) (.tmp 86) _ rfl (g + 1) 9 i0 _ 1 16 Tryd.underlying37 HI0.out HZ0.out HZ1.out HZ2.out rfl (by omega) u12 n _ rfl (by exact (NO.out.alloc _).alloc _) ⟨wr.heap.size + 1, 0, none⟩ 1 1 [.string sn] rfl rfl (by exact news1 wr _ 43 9 _) (by simp [Value.oneCell']) (by omega) (by simp only [maxLen]; omega) (by omega) (by simp; omega) (wr.heap.size + 2) (by simp) ?_
            intro g2 cap2 w6 hown6 hg6 hat6 hlt6
            have hrow : u12.ownBlock ≠ some g := fun e => by have := (NO.out.lt g e).1; omega
            have hF6 : Fl w6 g m fl := Fl.grown (Fl.below NF1.out ((Below.refl _ _).alloc (Nat.le_refl _) _)) hg6 hrow
            have hb6 : Below g w w6 := (hb1.out.alloc (by simp; omega) _).grown hg6 (by simp; omega) (fun y hy => by have := (NO.out.lt y hy).1; omega)
            have hO6 : w6.ownsRow (g + 1) 9 1 (.slice (some ⟨g2, 0, none⟩) (n + 1) cap2) (n + 1) (strsOf (namesOf ss fl (k + 1))) := by
              rw [HN.out]
              unfold strsOf
              rw [List.map_append]; exact hown6
            have HF6 := Lib.hid hF6
            have HO6 := Lib.hid hO6
            clear hF6 hO6 hown6 hg6 hat6 hrow c0 c1 hf1
            go_wp2_with fail
            go_roundw
            case rel => exact ⟨k + 1, n + 1, by omega, by omega, by go_num, by show _ = _; rw [HN.out, List.length_append, NL.out]; rfl, HO6, HF6, hb6⟩
            case measure => simp [intOf]; omega
        · obtain rfl : k = m := by omega
          have NO2 : Hid (wr.ownsRow w.heap.size 9 1 u12 (namesOf ss fl ss.length).length (strsOf (namesOf ss fl ss.length))) := by
            show World.ownsRow _ _ _ _ _ _ _
            rw [hm.out, NL.out]
            exact own_mono NO.out (by have := HG.out; omega)
          have hb2 : Hid (Below w.heap.size w wr) := by rw [HG.out]; exact hbn
          clear NO
          go_wp2_with fail
          go_ret
          exact ⟨fl, u12, HD.out, rfl, NO2.out, hb2.out⟩
    · obtain ⟨ws, x, rfl⟩ : ∃ ws0 x, ws = ws0 ++ [x] := by
        have hne : ws ≠ [] := fun e => by have := HQ.out; rw [e] at this; simp at this
        exact ⟨ws.dropLast, ws.getLast hne, (List.dropLast_concat_getLast hne).symm⟩
      have hwl : ws.length = q := by have := HQ.out; simpa using this
      obtain ⟨gw, cap, rfl, hg1, hg2⟩ := HO.out.form (by omega)
      have hcap := (own_cap HO.out).1
      have hx : wr.cell? ⟨gw, q, none⟩ = some (.string x) := by
        rw [HO.out.cellAt q (by omega)]
        unfold strsOf
        rw [List.getElem?_map, List.getElem?_append_right (by omega), hwl, Nat.sub_self]; rfl
      have HO2 : Hid (wr.ownsRow (g + 1) 9 1 (.slice (some ⟨gw, 0, none⟩) q cap) q (strsOf ws)) := by
        have := HO.out
        unfold strsOf at this ⊢
        rw [List.map_append] at this
        exact own_short this
      have HWL := Lib.hid hwl
      have hq1 : (q : Int) ≤ (cap : Int) := by omega
      have hcnt := HF.out.cnt
      have HCNT := Lib.hid hcnt
      clear HQ HO hwl hcnt
      cases htg : tgt ss x with
      | none =>
        have HT := Lib.hid htg
        have HI2 := Lib.hid (HI.out.popNone htg)
        clear htg
        go_wp2_with (go_at_call 30; refine (target_any _ _ m ss _ none _ hKr hRr hm (by omega) HT).mono ?_; rintro e w3 ⟨rfl, b3⟩; unfold foundV)
        have hF3 := HF.out.below b3
        refine ⟨⟨fl, ws, q, HI2, HWL, hF3, own_below HO2.out b3, by omega, hb.trans (b3.mono hgr)⟩, ?_⟩
        rw [hF3.cnt, HCNT.out]
        simp only [lenV]; omega
      | some j =>
        have hj := tgt_lt htg
        obtain ⟨s, hs⟩ : ∃ s, ss[j]? = some s := ⟨_, List.getElem?_eq_getElem hj⟩
        have hjm : j < m := by have := hm.out; omega
        obtain ⟨b, hfb⟩ : ∃ b, fl[j]? = some b := ⟨_, List.getElem?_eq_getElem (by rw [HF.out.1]; exact hjm)⟩
        have HT := Lib.hid htg
        have HFB := Lib.hid hfb
        have HS := Lib.hid hs
        clear hj hs
        cases b with
        | true =>
          have HI2 := Lib.hid (HI.out.popOld htg hfb)
          clear htg hfb
          go_wp2_with fail
          refine (target_any _ _ m ss _ (some j) _ hKr hRr hm (by omega) HT).mono ?_
          rintro e w3 ⟨rfl, b3⟩
          unfold foundV
          have hF3 := Lib.hid (HF.out.below b3)
          have hfc := hF3.out.cell HFB.out
          go_wp2_with fail
          refine ⟨⟨fl, ws, q, HI2, HWL, hF3, own_below HO2.out b3, by omega, hb.trans (b3.mono hgr)⟩, ?_⟩
          rw [hF3.out.cnt, HCNT.out]
          simp only [lenV]; omega
        | false =>
          have HI2 := Lib.hid (HI.out.popNew htg HS.out)
          have hcs := count_set hfb
          have HCS := Lib.hid hcs
          clear htg hfb hcs
          go_wp2_with fail
          refine (target_any _ _ m ss _ (some j) _ hKr hRr hm (by omega) HT).mono ?_
          rintro e w3 ⟨rfl, b3⟩
          unfold foundV
          have hF3 := Lib.hid (HF.out.below b3)
          have hfc := hF3.out.cell HFB.out
          have hfz := hF3.out.2.frozenAt j
          have b4 : Below g w (w3.setCell ⟨g, j, none⟩ (.bool true)) := (hb.trans (b3.mono hgr)).setCell (Nat.le_refl _) _
          have hF4 := Lib.hid (hF3.out.set j)
          have hO4 : Hid ((w3.setCell ⟨g, j, none⟩ (.bool true)).ownsRow (g + 1) 9 1 (.slice (some ⟨gw, 0, none⟩) q cap) q (strsOf ws)) :=
            (own_below HO2.out b3).kept (hF3.out.2.stored j (.bool true)).2 (Or.inr (fun e => by have := Option.some.inj e; simp at this; omega))
          have hK4 := Lib.hid (HK.out.below b4 (Nat.le_of_eq HG.out))
          obtain ⟨lb, lo, hA, hlb, hlc⟩ := HR.out (by have := hm.out; omega)
          obtain ⟨FA, fc, C0, C1, hfc, hfm8, hFR⟩ := hlc j s HS.out
          have hfm12 := hfl.out s (List.mem_of_getElem? HS.out)
          have HFR := Lib.hid hFR
          have HC0 := Lib.hid C0
          have HC1 := Lib.hid C1
          clear hlc hFR hfm8 C0 C1
          obtain ⟨sn, fs⟩ := s
          simp only at hfc hfm12 HFR HI2 HC0 HC1
          obtain ⟨fm, hfm⟩ : ∃ fm, fs.length = fm := ⟨_, rfl⟩
          rw [hfm] at hfc hfm12 HI2 HC1
          have HFM := Lib.hid hfm
          have hlbg : lb < g := by have := HG.out; omega
          have c0 := (b4.cell (p := ⟨lb, lo + j * 2, none⟩) hlbg).trans HC0.out
          have c1 := (b4.cell (p := ⟨lb, lo + j * 2 + 1, none⟩) hlbg).trans HC1.out
          have hFR4 := Lib.hid (HFR.out.below b4 (Nat.le_of_eq HG.out))
          have hgw3 : gw < (w3.setCell ⟨g, j, none⟩ (.bool true)).heap.size := by have := (hO4.out.lt gw rfl).2; exact this
          have hg4 : g ≤ (w3.setCell ⟨g, j, none⟩ (.bool true)).heap.size := Nat.le_of_lt hF4.out.lt
          clear hfm hF3 b3 hfc
          subst hA
          go_wp2_with fail
          refine (links_any sn FA fc fm fs _ hK4.out hFR4.out HFM (by omega)).mono ?_
          rintro e w5 ⟨lv, rfl, hlo, b5⟩
          have hll := links_len fs fm
          have hlm := Lib.hid (links_fld (fs := fs) (n := fm))
          obtain ⟨ls, hls⟩ : ∃ ls, links fs fm = ls := ⟨_, rfl⟩
          rw [hls] at hlo HI2 hll hlm
          obtain ⟨LA, lc, rfl, hlc, hIR, hLA⟩ := ir_own hlo
          obtain ⟨nl, hnl⟩ : ∃ nl, ls.length = nl := ⟨_, rfl⟩
          rw [hnl] at hll hlc ⊢
          have HNL := Lib.hid hnl
          have HIR := Lib.hid hIR
          have hF5 := Lib.hid (hF4.out.below b5)
          have hO5 := Lib.hid (own_below hO4.out b5)
          have hNE : Hid (∀ a, LA = some a → a.block ≠ gw) := fun a ha => by have := hLA a ha; omega
          have d5 := Lib.hid (b4.trans (b5.mono hg4))
          clear hls hlo hnl hIR hLA b5 c0 c1 hFR4 hK4 hF4 hO4 b4
          go_wp2_with fail
          go_loopw [6, 55] (fun v i wr => JRel w g m q (fl.set j true) ws ls fs LA nl v i wr) (fun _ i _ => nl - (intOf i).toNat)
          case atStart => exact ⟨0, Nat.zero_le _, rfl, (by simpa using hO5), hF5, HIR, fun a ha e => hNE a ha (by simpa [Value.ownBlock] using e.symm), d5⟩
          case round =>
            obtain ⟨k, hk, rfl, JO, JF, JI, JN, hbj⟩ := hrel
            by_cases hlt : k < nl
            · obtain ⟨p, hp⟩ : ∃ p, ls[k]? = some p := ⟨_, List.getElem?_eq_getElem (by have := HNL.out; omega)⟩
              have hpf := hlm.out k p hp
              rw [HFM.out] at hpf
              obtain ⟨f, hf⟩ : ∃ f, fs[p]? = some f := ⟨_, List.getElem?_eq_getElem (by have := HFM.out; omega)⟩
              obtain ⟨gl, rfl, hgl, hlcell⟩ := JI.out (by have := HNL.out; omega)
              have l0 := hlcell k p hp
              have c1 := (hbj.cell (p := ⟨lb, lo + j * 2 + 1, none⟩) hlbg).trans HC1.out
              obtain ⟨fb, fo, rfl, hfb, hfcell⟩ := (HFR.out.below hbj (Nat.le_of_eq HG.out)) (by have := HFM.out; omega)
              obtain ⟨-, f1⟩ := hfcell p f hf
              have hty : typAt fs p = f.typ := by unfold typAt; rw [hf]
              have htk : (ls.take (k + 1)).map (typAt fs) = (ls.take k).map (typAt fs) ++ [f.typ] := by
                obtain ⟨hk1, e⟩ := List.getElem?_eq_some_iff.1 hp
                rw [List.take_succ_eq_append_getElem hk1, List.map_append, e, ← hty]; rfl
              have HTK := Lib.hid htk
              have HLC := Lib.hid hlcell
              obtain ⟨fn, ft⟩ := f
              simp only at f1 HTK
              have hgj : g + 1 ≤ wr.heap.size := JF.out.lt
              have hi1 : (p : Int) < (fm : Int) := by omega
              clear hp hf hlcell hfcell hty htk
              go_wp2_with (at_builtin; refine Hid.out ?_)
              refine Lib.hid ?_
              refine wpList_append_lies _ rfl (.tmp 59) (.tmp 69) _ rfl (g + 1) 9 i0 _ 1 16 Tryd.underlying37 HI0.out HZ0.out HZ1.out HZ2.out rfl (by omega) u6 (q + k) _ rfl (by exact JO.out.alloc _) ⟨wr.heap.size, 0, none⟩ 1 1 [.string ft] rfl rfl (by exact news0 wr 9 _) (by simp [Value.oneCell']) (by omega) (by simp only [maxLen]; omega) (by omega) (by simp; omega) (wr.heap.size + 1) (by simp) ?_
              intro g2 cap2 w6 hown6 hg6 hat6 hlt6
              have hrow : u6.ownBlock ≠ some g := fun e => by have := (JO.out.lt g e).1; omega
              have hrl : u6.ownBlock ≠ some gl := JN.out _ rfl
              have hF6 : Fl w6 g m (fl.set j true) := Fl.grown (Fl.below JF.out ((Below.refl _ _).alloc (Nat.le_refl _) _)) hg6 hrow
              have hb6 : Below g w w6 := (hbj.alloc (by omega) _).grown hg6 (by simp; omega) (fun y hy => by have := (JO.out.lt y hy).1; omega)
              have hI6 : IR w6 (some ⟨gl, 0, none⟩) ls := fun _ => ⟨gl, rfl, Nat.lt_of_lt_of_le (by simp; omega) hg6.size, fun k p hp => by
                rw [hg6.cell_far ⟨gl, k, none⟩ (by simp; omega) (fun e => hrl e.symm), World.cell?_alloc_lt wr _ ⟨gl, k, none⟩ hgl]; exact HLC.out k p hp⟩
              have hN6 : ∀ a, some (⟨gl, 0, none⟩ : Addr) = some a → (Value.slice (some ⟨g2, 0, none⟩) (q + k + 1) cap2).ownBlock ≠ some a.block := by
                intro a ha e
                obtain rfl := Option.some.inj ha
                have e' : g2 = gl := by simpa [Value.ownBlock] using e
                rcases hat6 with h | h
                · exact hrl (h.trans (by rw [e']))
                · omega
              have hO6 : w6.ownsRow (g + 1) 9 1 (.slice (some ⟨g2, 0, none⟩) (q + (k + 1)) cap2) (q + (k + 1)) (strsOf (ws ++ (ls.take (k + 1)).map (typAt fs))) := by
                rw [HTK.out, ← List.append_assoc]
                unfold strsOf
                rw [List.map_append]; exact hown6
              have HF6 := Lib.hid hF6
              have HI6 := Lib.hid hI6
              have HN6 := Lib.hid hN6
              have HO6 := Lib.hid hO6
              clear hF6 hI6 hN6 hO6 hown6 hg6 hat6 hrow hrl l0 c1 f1
              go_wp2_with fail
              go_roundw
              case rel => exact ⟨k + 1, by omega, by go_num, HO6, HF6, HI6, HN6, hb6⟩
              case measure => simp [intOf]; omega
            · obtain rfl : k = nl := by omega
              have HW : Hid ((ws ++ ls.map (typAt fs)).length = q + k) := by
                show _ = _
                rw [List.length_append, List.length_map, HNL.out, HWL.out]
              have JO2 : Hid (wr.ownsRow (g + 1) 9 1 u6 (q + k) (strsOf (ws ++ ls.map (typAt fs)))) := by
                have := JO.out
                rw [List.take_of_length_le (by have := HNL.out; omega)] at this
                exact this
              have hlen : lenV u6 = q + k := by
                rcases JO.out.2 with ⟨rfl, h⟩ | ⟨_, _, _, rfl, _⟩
                · exact h.symm
                · rfl
              have HLEN := Lib.hid hlen
              clear hlen JO
              go_wp2_with fail
              have hcs := HCS.out
              refine ⟨⟨fl.set j true, _, q + k, HI2, HW, JF, JO2, by omega, hbj⟩, ?_⟩
              rw [JF.out.cnt, HCNT.out, HLEN.out]
              simp only [lenV]; omega

end Go.Proofs.YtpjfooghiclccaaDoor
