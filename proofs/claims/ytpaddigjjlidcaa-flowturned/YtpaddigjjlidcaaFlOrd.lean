/-
  CONTRACT: flow's Order: the blocks that are reached, in order. Of what was there nothing has turned; the row is new.
-/
import Derived.Test.YtpaddigjjlidcaaFlSim
import Derived.Test.YtpaddigjjlidcaaShelf
import Derived.Deep.LoopGhost
namespace Go.Proofs.Ytpaddigjjlidcaa
open Go.RowKit

/-- The row at g reads as l, and may be written. -/
abbrev Row (w : World) (g : Nat) (l : List Int) : Prop := Go.Sort.Holds (Value.int .i64) w g 0 l.toArray
theorem getE {l : List Int} {j : Nat} (h : j < l.length) : (l.toArray)[j]! = l[j] := by
  rw [getElem!_pos l.toArray j (by simpa using h)]; simp
theorem row_own {w : World} {base g n c : Nat} {l : List Int} (h : OI w base (.slice (some ⟨g, 0, none⟩) n c) l) : Row w g l := by
  have hn : n = l.length := by
    rcases h.2 with ⟨h', _⟩ | ⟨g', cap', cur, h', _⟩
    · cases h'
    · injection h' with _ e _
  subst hn
  intro j hj
  have hj' : j < l.length := by simpa using hj
  rw [Nat.zero_add]
  refine ⟨?_, World.ownsRow.frozenAt h j⟩
  rw [World.ownsRow.cellAt h j (by omega), getE hj']
  unfold intsV
  rw [List.getElem?_map, List.getElem?_eq_getElem hj']; rfl
theorem row_sl {w : World} {g : Nat} {l : List Int} (h : Row w g l) (hg : g < w.heap.size) (hi : ∀ x ∈ l, I64 x) : SL 1 intR w (some ⟨g, 0, none⟩) l := by
  intro _
  refine ⟨g, 0, rfl, hg, fun k n hk => ⟨[.int .i64 n], ⟨rfl, hi n (List.mem_of_getElem? hk)⟩, fun j v hj => ?_⟩⟩
  cases j with
  | succ j => simp at hj
  | zero =>
    obtain rfl := Option.some.inj hj
    obtain ⟨hk2, rfl⟩ := List.getElem?_eq_some_iff.1 hk
    have := (h k (by simpa using hk2)).1
    rw [getE hk2] at this
    rw [Nat.mul_one, Nat.add_zero]
    exact this
theorem below_put {w : World} {B g n : Nat} (d : Array Int) (hg : B ≤ g) : Below B w (Go.Sort.putRow (Value.int .i64) (Go.Sort.ahead w n) g 0 d) := by
  refine ⟨rfl, rfl, rfl, by simp, fun k hk => ?_⟩
  show (w.heap.modify g _)[k]? = _
  rw [Array.getElem?_modify, if_neg (by omega)]
theorem below_growS {w : World} {B : Nat} (os : Array Obj) (hB : B ≤ w.heap.size) : Below B w (Go.Sort.grow w os) :=
  ⟨rfl, rfl, rfl, by simp, fun k hk => Go.Sort.heap_grow_old w os (by omega)⟩
theorem row_lv {N : Nat → Prop} {w : World} {g n c : Nat} {l : List Int} (h : Row w g l) (hg : g < w.heap.size) (hN : ¬ N g) (hn : l.length = n) (hc : n ≤ c) : LV N w (.slice (some ⟨g, 0, none⟩) n c) l := by
  subst hn
  refine ⟨_, c, rfl, hc, fun _ => ⟨g, 0, rfl, hg, hN, fun i x hi => ?_⟩⟩
  obtain ⟨hk2, rfl⟩ := List.getElem?_eq_some_iff.1 hi
  have := (h i (by simpa using hk2)).1
  rwa [getE hk2] at this
theorem LV.sl {N : Nat → Prop} {w : World} {v : Value} {l : List Int} (h : LV N w v l) (hi : ∀ x ∈ l, I64 x) : ∃ A k, v = .slice A l.length k ∧ l.length ≤ k ∧ SL 1 intR w A l := by
  obtain ⟨A, k, e, hk, h1⟩ := h
  refine ⟨A, k, e, hk, fun h0 => ?_⟩
  obtain ⟨b, o, e2, hb, -, hc⟩ := h1 h0
  refine ⟨b, o, e2, hb, fun i x hx => ⟨[.int .i64 x], ⟨rfl, hi x (List.mem_of_getElem? hx)⟩, fun j v hj => ?_⟩⟩
  cases j with
  | succ j => simp at hj
  | zero =>
    obtain rfl := Option.some.inj hj
    rw [Nat.mul_one, Nat.add_zero]
    exact hc i x hx
/-- slices.Reverse of a row of one's own. -/
theorem reverse_any (v : Value) (l : List Int) (B : Nat) (w : World) (hO : OI w B v l) (hn : Hid (0 < l.length)) (hl : l.length ≤ 1000000) :
    Calls Try.prog 24 #[v] w fun e w' => e = .returned (.tuple #[]) ∧ Below B w w' ∧ LV (fun b => b < B) w' v l.reverse := by
  rcases hO.2 with ⟨rfl, h0⟩ | ⟨g, cap, cur, rfl, hb, hg, hnn, -⟩
  · have := hn.out; omega
  · have hgs : g < w.heap.size := (Array.getElem?_eq_some_iff.1 hg).1
    refine (Try.slices_Reverse_int g 0 cap l w (row_own hO) (by omega)).mono ?_
    rintro e w' ⟨rfl, q, rfl⟩
    have h2 := Go.Sort.holds_putRow (Value.int .i64) (Go.Sort.ahead w q) g 0 l.toArray l.reverse.toArray (Go.Sort.holds_ahead _ w q g 0 _ (row_own hO)) (by simp)
    exact ⟨rfl, below_put _ hb, row_lv h2 (by simpa using hgs) (by omega) (by simp) hnn⟩
theorem mu_pop {fl : List Bool} {w0 : List En} {b : Int} {l : List Int} {v : Value} : mu fl w0 < mu fl (w0 ++ [⟨b, l, v⟩]) := by rw [mu_end]; omega
theorem mu_skip {fl : List Bool} {w0 : List En} {b x : Int} {r : List Int} {v u : Value} : mu fl (w0 ++ [⟨b, r, u⟩]) < mu fl (w0 ++ [⟨b, x :: r, v⟩]) := by
  rw [mu_end, mu_end]
  simp
theorem mu_push {fl : List Bool} {w0 : List En} {b x y : Int} {r l2 : List Int} {v u v2 : Value} {j : Nat} (h : fl[j]? = some false) (h2 : l2.length ≤ 2) : mu (fl.set j true) (w0 ++ [⟨b, r, u⟩] ++ [⟨y, l2, v2⟩]) < mu fl (w0 ++ [⟨b, x :: r, v⟩]) := by
  rw [mu_end, mu_end, mu_end]
  have := count_set h
  unfold mu
  simp only [List.length_cons]
  omega
def PRel (w0 : World) (bl : List Blk) (g m k : Nat) (s o : Value) (wr : World) : Prop :=
  ∃ fl way out, Hid (WyI bl m fl way out) ∧ Hid (mu fl way ≤ k) ∧ Hid (Fl wr g m fl) ∧ Hid (OW wr (g + 1) s way) ∧ Hid (OI wr (g + 1) o out) ∧ Hid (∀ q, Ow s q → ¬ Ow o q) ∧
    Hid (∀ e ∈ way, LV (fun b => b ≤ g ∨ Ow s b ∨ Ow o b) wr e.v e.l) ∧ Below g w0 wr ∧ g + 1 ≤ wr.heap.size

set_option maxRecDepth 100000 in
set_option maxHeartbeats 1000000 in
theorem order_lv (E : FE) (m : Nat) (w : World) (hM : FM E w) (hm : Hid (E.f.blocks.length = m)) (hlim : Hid (m ≤ 1000000)) :
    Calls Try.prog 15 #[E.v] w fun e w' => ∃ o v, OrdR E.f.blocks o ∧ e = .returned v ∧ LV (fun b => b < w.heap.size) w' v o ∧ Below w.heap.size w w' := by
  obtain ⟨i4, hi4, hy0, hy1, hy2⟩ := info_parts bool_info
  have HI4 := Lib.hid hi4
  have HY0 := Lib.hid hy0
  have HY1 := Lib.hid hy1
  have hmb := hlim.out
  have HB2 : Hid (i4.bytes * m ≤ 281474976710656) := by show _ ≤ _; rw [hy2]; omega
  have HB3 : Hid (m ≤ maxLen) := by show _ ≤ _; simp only [maxLen]; omega
  have HB := Lib.hid (below_alloc w (.cells E.row 26))
  have HM := Lib.hid (hM.below HB.out (Nat.le_refl _))
  have c0 : (w.alloc (.cells E.row 26)).cell? ⟨w.heap.size, 0, none⟩ = some (.string E.f.name) := cell_new w E.row 26 0
  have c1 : (w.alloc (.cells E.row 26)).cell? ⟨w.heap.size, 1, none⟩ = some (.slice E.pA E.f.params.length E.pc) := cell_new w E.row 26 1
  have c2 : (w.alloc (.cells E.row 26)).cell? ⟨w.heap.size, 2, none⟩ = some (.string E.f.res) := cell_new w E.row 26 2
  have c3 : (w.alloc (.cells E.row 26)).cell? ⟨w.heap.size, 3, none⟩ = some (.slice E.sA E.f.slots.length E.sc) := cell_new w E.row 26 3
  have c4 : (w.alloc (.cells E.row 26)).cell? ⟨w.heap.size, 4, none⟩ = some (.slice E.iA E.f.ins.length E.ic) := cell_new w E.row 26 4
  have c5 : (w.alloc (.cells E.row 26)).cell? ⟨w.heap.size, 5, none⟩ = some (.slice E.bA E.f.blocks.length E.bc) := cell_new w E.row 26 5
  have c5m := c5
  rw [hm.out] at c5m
  have C : Hid (_ ∧ _ ∧ _ ∧ _ ∧ _ ∧ _) := ⟨c0, c1, c2, c3, c4, c5⟩
  clear hM hi4 hy0 hy1 hy2 c0 c1 c2 c3 c4 c5
  have hsz : (w.alloc (.cells E.row 26)).heap.size = w.heap.size + 1 := by simp
  unfold FE.v
  by_cases hz : m = 0
  · have hz' : ((m : Int) == 0) = true := by simp; omega
    have hO : Hid (OrdR E.f.blocks []) := by show OrdR _ _; unfold OrdR; rw [if_pos (by rw [hm.out]; exact hz)]
    go_enter Try.func15, Try.ntmps15
    go_wp2_with fail
    go_ret
    exact ⟨[], _, hO.out, rfl, ⟨none, 0, rfl, Nat.le_refl _, fun h => absurd h (Nat.lt_irrefl _)⟩, HB.out⟩
  · have hz' : ((m : Int) == 0) = false := by simp; omega
    have hm0 : 0 < m := by omega
    go_enter Try.func15, Try.ntmps15
    go_wp2_with (refine wpList_make_full _ rfl (.tmp 14) (.tmp 14) 31 rfl (w.heap.size + 1) 4 i4 _ 1 Try.underlying31 HI4.out HY0.out HY1.out .i64 .i64 m m m rfl rfl rfl rfl HB2.out HB3.out (Nat.le_of_eq hsz.symm) ?_; intro w1 hown1 hg1; refine Hid.out ?_)
    have F1 : Hid (Fl w1 (w.heap.size + 1) m (List.replicate m false)) := by
      refine ⟨List.length_replicate, ?_⟩
      have := hown1
      rw [hsz] at this
      rw [Nat.mul_one, show (Value.bool false).cells = #[.bool false] from rfl, toList_madeCells_one] at this
      unfold boolsOf
      rw [List.map_replicate]; exact this
    have B1 := Lib.hid ((Below.refl (w.heap.size + 1) (w.alloc (.cells E.row 26))).grown hg1 (Nat.le_of_eq hsz.symm) (fun k hk => by cases hk))
    clear hown1 hg1 HB2 HB3 HI4 HY0 HY1
    obtain ⟨g, hg⟩ : ∃ g, w.heap.size + 1 = g := ⟨_, rfl⟩
    rw [hg] at F1 B1 hsz ⊢
    have hgw : w.heap.size < g := by omega
    generalize w.alloc (.cells E.row 26) = w0 at *
    have hg1 : g + 1 ≤ w1.heap.size := F1.out.lt
    have hrep : (List.replicate m false)[0]? = some false := by rw [List.getElem?_replicate, if_pos hm0]
    have hfc := F1.out.cell hrep
    have hfz := F1.out.2.frozenAt 0
    have F3 := Lib.hid (F1.out.set 0)
    have B3 := Lib.hid (B1.out.setCell (p := ⟨g, 0, none⟩) (Nat.le_refl g) (.bool true))
    have hs3 : g + 1 ≤ (w1.setCell ⟨g, 0, none⟩ (.bool true)).heap.size := by simp [World.setCell]; omega
    have hsz2 : (w1.setCell ⟨g, 0, none⟩ (.bool true)).heap.size = w1.heap.size := by simp [World.setCell]
    obtain ⟨c0, c1, c2, c3, c4', c5⟩ := C.out
    have k0 := (B3.out.cell (p := ⟨w.heap.size, 0, none⟩) hgw).trans c0
    have k1 := (B3.out.cell (p := ⟨w.heap.size, 1, none⟩) hgw).trans c1
    have k2 := (B3.out.cell (p := ⟨w.heap.size, 2, none⟩) hgw).trans c2
    have k3 := (B3.out.cell (p := ⟨w.heap.size, 3, none⟩) hgw).trans c3
    have k4 := (B3.out.cell (p := ⟨w.heap.size, 4, none⟩) hgw).trans c4'
    have k5 := (B3.out.cell (p := ⟨w.heap.size, 5, none⟩) hgw).trans c5
    have HMR := Lib.hid (HM.out.below B3.out (Nat.le_of_eq hsz))
    clear hrep c0 c1 c2 c3 c4' c5
    refine Lib.hid ?_
    go_wp2_with fail
    refine (next_any E 0 (w1.setCell ⟨g, 0, none⟩ (.bool true)) HMR.out ⟨by omega, by omega⟩).mono ?_
    rintro e w5 ⟨nv, rfl, hO5, hb5⟩
    have V5 : LV (fun b => b ≤ g) w5 nv (nextL E.f.blocks 0) := .of hO5 (fun b hb h => by omega)
    have F5 := Lib.hid (F3.out.below hb5)
    have B5 := Lib.hid (B3.out.trans (hb5.mono (by omega)))
    have hs5 : g + 1 ≤ w5.heap.size := Nat.le_trans hs3 hb5.size
    obtain ⟨A5, k5', rfl, hk5, -⟩ := id V5
    obtain ⟨n5, hn5⟩ : ∃ n, (nextL E.f.blocks 0).length = n := ⟨_, rfl⟩
    rw [hn5] at V5 hO5 ⊢
    obtain ⟨nv, hnv⟩ : ∃ v, Value.slice A5 n5 k5' = v := ⟨_, rfl⟩
    rw [hnv] at V5 hO5
    have ba := below_alloc w5 (.cells #[.int .i64 0, nv] 47)
    have W6 : OW (w5.alloc (.cells #[.int .i64 0, nv] 47)) (g + 1) (.slice (some ⟨w5.heap.size, 0, none⟩) 1 1) [⟨0, nextL E.f.blocks 0, nv⟩] := World.ownsRow_lit w5 #[.int .i64 0, nv] 1 hs5 (by simp only [maxLen]; omega) rfl
    have HW6 := Lib.hid W6
    have F6 := Lib.hid (F5.out.below ba)
    have B6 := Lib.hid (B5.out.trans (ba.mono (by omega)))
    have V6 : Hid (LV (fun b => b ≤ g ∨ Ow (.slice (some ⟨w5.heap.size, 0, none⟩) 1 1) b ∨ Ow (.slice none 0 0) b) (w5.alloc (.cells #[.int .i64 0, nv] 47)) nv (nextL E.f.blocks 0)) := V5.sv (P := fun _ => False) (Sv.of ba) (fun b h => h.elim) (fun b hb h => by
      rcases h with h | h | h
      · exact h
      · have e : some w5.heap.size = some b := h
        have := Option.some.inj e
        omega
      · have e : none = some b := h
        cases e)
    have hs6 := Nat.le_trans hs5 ba.size
    have HI0 := Lib.hid (WyI.start (bl := E.f.blocks) hm0 nv)
    have DD : Hid (∀ q, Ow (.slice (some ⟨w5.heap.size, 0, none⟩) 1 1) q → ¬ Ow (.slice none 0 0) q) := fun q h1 h2 => by
      have e : none = some q := h2
      cases e
    clear V5 W6 ba hb5 hO5 k0 k1 k2 k3 k4 k5 HMR hfc hfz F1 F3 F5 B1 B3 B5 hk5
    subst hnv
    clear hn5
    go_wp2_with fail
    go_loopg [4, 5] (mu ((List.replicate m false).set 0 true) [⟨0, nextL E.f.blocks 0, .slice A5 n5 k5'⟩]) (fun k s o wr => PRel w0 E.f.blocks g m k s o wr)
    case atStart => exact ⟨_, _, [], HI0, Nat.le_refl _, F6, HW6, OI.nil _ _, DD, fun e he => by obtain rfl := List.mem_singleton.1 he; exact V6.out, B6.out, hs6⟩
    case round =>
      obtain ⟨fl, way, out, RS, RK, RF, RT, RO, RD, RV, hbr, hsr⟩ := hrel
      have HBR := Lib.hid hbr
      rcases List.eq_nil_or_concat way with hst | ⟨way0, ⟨b, l, v⟩, hst⟩
      · subst hst
        have hs4 : lenV u4 = 0 ∧ ∃ A c, u4 = .slice A 0 c := by
          rcases RT.out.2 with ⟨h, -⟩ | ⟨g2, cap, cur, h, -⟩
          · rw [h]; exact ⟨rfl, _, _, rfl⟩
          · rw [h]; exact ⟨rfl, _, _, rfl⟩
        obtain ⟨-, A4, c4, rfl⟩ := hs4
        have HO := Lib.hid (RS.out.done hm.out hm0)
        have hol : 0 < out.length := by
          have h := (ord_facts HO.out (by rw [hm.out]; exact hm0)).hd
          cases out with
          | nil => simp at h
          | cons a r => simp
        have HBW := Lib.hid (HB.out.trans (HBR.out.mono (Nat.le_of_lt hgw)))
        have HOL := Lib.hid hol
        have hlen := RS.out.len.2
        clear hbr hol
        go_wp2_with fail
        refine (reverse_any u5 out (g + 1) wr RO.out HOL (by omega)).mono ?_
        rintro e w6 ⟨rfl, hb6, hS⟩
        have HS := Lib.hid hS
        have HB6 := Lib.hid (HBW.out.trans (hb6.mono (by omega)))
        clear hS hb6
        go_wp2_with fail
        go_ret
        exact ⟨_, _, HO.out, rfl, HS.out.sv (P := fun _ => False) (Sv.refl _ _) (fun _ h => h.elim) (fun b _ h => by omega), HB6.out⟩
      · rw [List.concat_eq_append] at hst
        subst hst
        obtain ⟨wb, wc, rfl, hwc⟩ := RT.out.form (by simp)
        obtain ⟨q, hq⟩ : ∃ q, way0.length = q := ⟨_, rfl⟩
        have hq1 : (way0 ++ [(⟨b, l, v⟩ : En)]).length = q + 1 := by simp [hq]
        obtain ⟨s0, s1⟩ := RT.out.last hq
        have hsf := World.ownsRow.frozenAt (by have h := RT.out; unfold OW at h; exact h) (q * 2 + 1)
        have hqm : q + 1 ≤ m := by have h := RS.out.len.1; rw [hq1] at h; exact h
        have hml := RS.out.len.2
        rw [hq1] at hwc ⊢
        have HT : Hid (OW wr (g + 1) (.slice (some ⟨wb, 0, none⟩) (q + 1) wc) (way0 ++ [⟨b, l, v⟩])) := by have h := RT.out; rw [hq1] at h; exact h
        have HD : Hid (∀ q', Ow (.slice (some ⟨wb, 0, none⟩) (q + 1) wc) q' → ¬ Ow u5 q') := fun q' h1 h2 => RD.out q' h1 h2
        have HV : Hid (∀ e ∈ way0 ++ [⟨b, l, v⟩], LV (fun b => b ≤ g ∨ b = wb ∨ Ow u5 b) wr e.v e.l) := fun e he => (RV.out e he).sv (P := fun _ => False) (Sv.refl _ _) (fun _ h => h.elim) (fun b' _ h => by
          rcases h with h | h | h
          · exact .inl h
          · exact .inr (.inl (by rw [h]; rfl))
          · exact .inr (.inr h))
        have hwb := HT.out.lo (k := wb) rfl
        have HQ := Lib.hid hq
        have HQ1 := Lib.hid hq1
        clear RT RD RV hq hq1
        simp only at s0 s1
        obtain ⟨A, kc, hvv, hkc, hLV⟩ := HV.out _ (List.mem_append_right _ (List.mem_singleton.2 rfl))
        simp only at hvv hkc hLV
        subst hvv
        have hbin := (RS.out.nums (by omega)).1 _ (List.mem_append_right _ (List.mem_singleton.2 rfl))
        simp only at hbin
        cases l with
        | nil =>
          simp only [List.length_nil] at s1 hkc
          have s1' : wr.cell? ⟨wb, q * 2 + 1, none⟩ = some (.slice A 0 kc) := s1
          have HS := Lib.hid RS.out.pop
          have ba := below_alloc wr (.cells #[.int .i64 b] 3)
          clear hLV hbr s1
          go_wp2_with (at_builtin; refine Hid.out ?_)
          refine Lib.hid ?_
          refine app_one rfl (.tmp 36) (.tmp 41) 34 rfl Try.underlying34 _ (g + 1) _ out b rfl RO.out rfl (by omega) hsr ?_
          intro v2 w7 hO7 hS7 hz7 hw7
          have F7 := Lib.hid (RF.out.sv hS7 (fun h => by have := (RO.out.lo h).1; omega))
          have T7 : Hid (OW w7 (g + 1) (.slice (some ⟨wb, 0, none⟩) q wc) way0) := by
            have h := HT.out.sv hS7 (fun k h1 h2 => HD.out k h1 h2)
            rw [← HQ1.out] at h
            have h2 := h.init
            rwa [HQ.out] at h2
          have hws : ∀ k, Ow (.slice (some ⟨wb, 0, none⟩) q wc) k → k = wb := fun k hk => by
            have e : some wb = some k := hk
            exact (Option.some.inj e).symm
          have D7 : Hid (∀ k, Ow (.slice (some ⟨wb, 0, none⟩) q wc) k → ¬ Ow v2 k) := fun k h1 h2 => by
            obtain rfl := hws k h1
            rcases hw7 k h2 with h | h
            · exact HD.out k rfl h
            · have := hwb.2; omega
          have V7 : Hid (∀ e ∈ way0, LV (fun b => b ≤ g ∨ Ow (.slice (some ⟨wb, 0, none⟩) q wc) b ∨ Ow v2 b) w7 e.v e.l) := fun e he => (HV.out e (List.mem_append_left _ he)).sv hS7 (fun b h => .inr (.inr h)) (fun b hb h => by
            rcases h with h | h | h
            · exact .inl h
            · exact .inr (.inl (hws b h))
            · rcases hw7 b h with h | h
              · exact .inr (.inr h)
              · omega)
          have HO7 := Lib.hid hO7
          have B7 := Lib.hid (HBR.out.trans (hS7.below (fun i hi => by have := (RO.out.lo hi).1; omega) (by omega)))
          have hs7 : g + 1 ≤ w7.heap.size := by omega
          clear hO7 hS7 hz7 hw7 hws ba s0 s1' hsf
          go_wp2_with fail
          go_roundg (mu fl way0)
          case measure => exact Nat.lt_of_lt_of_le mu_pop RK.out
          case rel => exact ⟨fl, way0, _, HS, Nat.le_refl _, F7, T7, HO7, D7, V7, B7.out, hs7⟩
        | cons x r =>
          obtain ⟨lb, lo, rfl, hlb, hnl, hlc⟩ := hLV (by simp)
          have x0 := hlc 0 x rfl
          rw [Nat.add_zero] at x0
          have hxm : 0 ≤ x ∧ x < m := by
            obtain ⟨pre, e1, -⟩ := RS.out.left _ (List.mem_append_right _ (List.mem_singleton.2 rfl))
            have h : x ∈ nextL E.f.blocks b := by
              rw [show nextL E.f.blocks b = pre ++ x :: r from e1]
              exact List.mem_append_right _ List.mem_cons_self
            have := next_in h
            rw [hm.out] at this
            exact this
          obtain ⟨j, rfl⟩ : ∃ j : Nat, x = j := ⟨x.toNat, by omega⟩
          have hjm : j < m := by omega
          have s1' : wr.cell? ⟨wb, q * 2 + 1, none⟩ = some (.slice (some ⟨lb, lo, none⟩) (r.length + 1) kc) := s1
          have hkc' : r.length + 1 ≤ kc := hkc
          have HLC := Lib.hid hlc
          clear hLV hbr s1 hkc hlc
          generalize hrn : r.length = rn at *
          have HRN := Lib.hid hrn
          clear hrn
          have hwg : wb ≠ g := by omega
          have hne : (rn + 1 == 0) = false := by simp
          have hne2 : ((rn : Int) + 1 == 0) = false := by rw [beq_eq_false_iff_ne]; omega
          go_upto_region 14 with (fail)
          obtain ⟨u, hu⟩ : ∃ u, Value.slice (if kc = 1 then some ⟨lb, lo, none⟩ else some ⟨lb, lo + 1, none⟩) rn (kc - 1) = u := ⟨_, rfl⟩
          rw [hu]
          have hSv : Sv (fun k => k = wb) wr (wr.setCell ⟨wb, q * 2 + 1, none⟩ u) := (Sv.refl (fun k => k = wb) wr).setCell (p := ⟨wb, q * 2 + 1, none⟩) (.inl rfl) u
          have hLu : LV (fun b => b ≤ g ∨ b = wb ∨ Ow u5 b) (wr.setCell ⟨wb, q * 2 + 1, none⟩ u) u r := by
            refine ⟨_, kc - 1, by rw [HRN.out]; exact hu.symm, by rw [HRN.out]; omega, fun h0 => ?_⟩
            rw [if_neg (by have := HRN.out; omega)]
            refine ⟨lb, lo + 1, rfl, by simp [World.setCell]; exact hlb, hnl, fun i x hi => ?_⟩
            have := hSv.cell (HLC.out (i + 1) x hi) (fun e => hnl (.inr (.inl e)))
            rw [Nat.add_assoc, Nat.add_comm 1 i]
            exact this
          have F6 := Lib.hid (RF.out.sv hSv (fun e => hwg e.symm))
          have T6 := Lib.hid (HT.out.put HQ.out r u)
          have O6 := Lib.hid (RO.out.sv hSv (fun k h e => HD.out k (by rw [e]; rfl) h))
          have V6 : Hid (∀ e ∈ way0 ++ [(⟨b, r, u⟩ : En)], LV (fun b => b ≤ g ∨ b = wb ∨ Ow u5 b) (wr.setCell ⟨wb, q * 2 + 1, none⟩ u) e.v e.l) := fun e he => by
            rcases List.mem_append.1 he with h | h
            · exact (HV.out e (List.mem_append_left _ h)).sv hSv (fun b h => .inr (.inl h)) (fun _ _ h => h)
            · obtain rfl := List.mem_singleton.1 h
              exact hLu
          have B6 := Lib.hid (HBR.out.setCell (p := ⟨wb, q * 2 + 1, none⟩) (by show g ≤ wb; omega) u)
          have hz6 : (wr.setCell ⟨wb, q * 2 + 1, none⟩ u).heap.size = wr.heap.size := by simp [World.setCell]
          have hq2 : (way0 ++ [(⟨b, r, u⟩ : En)]).length = q + 1 := by simp [HQ.out]
          have HQ2 := Lib.hid hq2
          clear hSv hLu hu x0 s0 s1' hsf HLC hnl hlb HV HT hq2
          generalize wr.setCell ⟨wb, q * 2 + 1, none⟩ u = w6 at *
          have hs6 : g + 1 ≤ w6.heap.size := by omega
          obtain ⟨bv, hfj⟩ : ∃ b, fl[j]? = some b := ⟨_, List.getElem?_eq_getElem (by have := RS.out.mci.len; simp only at this; omega)⟩
          have g0 := F6.out.cell hfj
          have HFJ := Lib.hid hfj
          clear hfj
          cases bv with
          | true =>
            have HS := Lib.hid (RS.out.skip (v' := u) (by rw [Int.toNat_natCast]; exact HFJ.out))
            have D6 : Hid (∀ k, Ow (.slice (some ⟨wb, 0, none⟩) (q + 1) wc) k → ¬ Ow u5 k) := HD
            have hws : ∀ k, Ow (.slice (some ⟨wb, 0, none⟩) (q + 1) wc) k → k = wb := fun k hk => by
              have e : some wb = some k := hk
              exact (Option.some.inj e).symm
            have V7 : Hid (∀ e ∈ way0 ++ [(⟨b, r, u⟩ : En)], LV (fun b => b ≤ g ∨ Ow (.slice (some ⟨wb, 0, none⟩) (q + 1) wc) b ∨ Ow u5 b) w6 e.v e.l) := fun e he => (V6.out e he).sv (P := fun _ => False) (Sv.refl _ _) (fun _ h => h.elim) (fun b _ h => by
              rcases h with h | h | h
              · exact .inl h
              · exact .inr (.inl (hws b h))
              · exact .inr (.inr h))
            clear hws
            go_wp2_with fail
            go_roundg (mu fl (way0 ++ [(⟨b, r, u⟩ : En)]))
            case measure => exact Nat.lt_of_lt_of_le mu_skip RK.out
            case rel => exact ⟨fl, _, _, HS, Nat.le_refl _, F6, T6, O6, D6, V7, B6.out, hs6⟩
          | false =>
            have gz := F6.out.2.frozenAt j
            have hS7 := (Sv.refl (fun k => k = g) w6).setCell (p := ⟨g, j, none⟩) (.inl rfl) (.bool true)
            have F7 := Lib.hid (F6.out.set j)
            have T7 := Lib.hid (T6.out.sv hS7 (fun k hk e => by have := (T6.out.lo hk).1; omega))
            have O7 := Lib.hid (O6.out.sv hS7 (fun k hk e => by have := (O6.out.lo hk).1; omega))
            have V7 : Hid (∀ e ∈ way0 ++ [(⟨b, r, u⟩ : En)], LV (fun b => b ≤ g ∨ b = wb ∨ Ow u5 b) (w6.setCell ⟨g, j, none⟩ (.bool true)) e.v e.l) := fun e he => (V6.out e he).sv hS7 (fun b h => .inl (by omega)) (fun _ _ h => h)
            have B7 := Lib.hid (B6.out.setCell (p := ⟨g, j, none⟩) (Nat.le_refl g) (.bool true))
            have hz7 : (w6.setCell ⟨g, j, none⟩ (.bool true)).heap.size = w6.heap.size := by simp [World.setCell]
            obtain ⟨c0, c1, c2, c3, c4', c5⟩ := C.out
            have k0 := (B7.out.cell (p := ⟨w.heap.size, 0, none⟩) hgw).trans c0
            have k1 := (B7.out.cell (p := ⟨w.heap.size, 1, none⟩) hgw).trans c1
            have k2 := (B7.out.cell (p := ⟨w.heap.size, 2, none⟩) hgw).trans c2
            have k3 := (B7.out.cell (p := ⟨w.heap.size, 3, none⟩) hgw).trans c3
            have k4 := (B7.out.cell (p := ⟨w.heap.size, 4, none⟩) hgw).trans c4'
            have k5 := (B7.out.cell (p := ⟨w.heap.size, 5, none⟩) hgw).trans c5
            have HMR := Lib.hid (HM.out.below B7.out (Nat.le_of_eq hsz))
            clear c0 c1 c2 c3 c4' c5 hS7
            go_upto_region 16 with (fail)
            go_wp2_with fail
            generalize w6.setCell ⟨g, j, none⟩ (.bool true) = w7 at *
            refine (next_any E j w7 HMR.out ⟨by omega, by omega⟩).mono ?_
            rintro e w8 ⟨nv, rfl, hO8, hb8⟩
            have F8 := Lib.hid (F7.out.below hb8)
            have T8 := Lib.hid (T7.out.keep hb8)
            have O8 := Lib.hid (O7.out.keep hb8)
            have B8 := Lib.hid (B7.out.trans (hb8.mono (by omega)))
            have hs8 : g + 1 ≤ w8.heap.size := by have := hb8.size; omega
            have VN : LV (fun b => b ≤ g ∨ b = wb ∨ Ow u5 b) w8 nv (nextL E.f.blocks j) := .of hO8 (fun b hb h => by
              rcases h with h | h | h
              · omega
              · have := hwb.2; omega
              · have := (O7.out.lo h).2; omega)
            have V8 : ∀ e ∈ way0 ++ [(⟨b, r, u⟩ : En)], LV (fun b => b ≤ g ∨ b = wb ∨ Ow u5 b) w8 e.v e.l := fun e he => (V7.out e he).sv (P := fun _ => False) (Sv.of hb8) (fun _ h => h.elim) (fun _ _ h => h)
            have V8' : Hid (∀ e ∈ way0 ++ [(⟨b, r, u⟩ : En)] ++ [(⟨j, nextL E.f.blocks j, nv⟩ : En)], LV (fun b => b ≤ g ∨ b = wb ∨ Ow u5 b) w8 e.v e.l) := fun e he => by
              rcases List.mem_append.1 he with h | h
              · exact V8 e h
              · obtain rfl := List.mem_singleton.1 h
                exact VN
            have hn2 : (nextL E.f.blocks j).length ≤ 2 := next_two _ _
            have HS := Lib.hid (RS.out.push hm.out (v' := u) (u := nv) HFJ.out)
            have hone := VN.one
            have hz68 : w6.heap.size ≤ w8.heap.size := by have := hb8.size; omega
            obtain ⟨A8, c8, hnv, -, -⟩ := VN
            obtain ⟨n8, hn8⟩ : ∃ n, (nextL E.f.blocks j).length = n := ⟨_, rfl⟩
            rw [hn8] at hnv
            subst hnv
            have HN8 := Lib.hid hn8
            clear hO8 hb8 V8 hn8 k0 k1 k2 k3 k4 k5 HMR g0 gz
            go_wp2_with (at_builtin; refine Hid.out ?_)
            refine Lib.hid ?_
            refine app_en rfl (.tmp 70) (.tmp 76) 48 rfl Try.underlying48 _ (g + 1) _ _ ⟨j, nextL E.f.blocks j, .slice A8 n8 c8⟩ rfl T8.out rfl rfl (by have := HQ2.out; omega) hs8 ?_
            intro v9 w9 hO9 hS9 hz9 hw9
            have hws : ∀ k, Ow (.slice (some ⟨wb, 0, none⟩) (q + 1) wc) k → k = wb := fun k hk => by
              have e : some wb = some k := hk
              exact (Option.some.inj e).symm
            have F9 := Lib.hid (F8.out.sv hS9 (fun h => hwg (hws g h).symm))
            have O9 := Lib.hid (O8.out.sv hS9 (fun k h1 h2 => HD.out k h2 h1))
            have D9 : Hid (∀ k, Ow v9 k → ¬ Ow u5 k) := fun k h1 h2 => by
              rcases hw9 k h1 with h | h
              · exact HD.out k h h2
              · have := (O8.out.lo h2).2; omega
            have V9 : Hid (∀ e ∈ way0 ++ [(⟨b, r, u⟩ : En)] ++ [(⟨j, nextL E.f.blocks j, .slice A8 n8 c8⟩ : En)], LV (fun b => b ≤ g ∨ Ow v9 b ∨ Ow u5 b) w9 e.v e.l) := fun e he => (V8'.out e he).sv hS9 (fun b h => .inr (.inl (hws b h))) (fun b hb h => by
              rcases h with h | h | h
              · exact .inl h
              · rcases hw9 b h with h | h
                · exact .inr (.inl (hws b h))
                · omega
              · exact .inr (.inr h))
            have B9 := Lib.hid (B8.out.trans (hS9.below (fun i hi => by have := hws i hi; omega) (by omega)))
            have HO9 := Lib.hid hO9
            have hs9 : g + 1 ≤ w9.heap.size := by omega
            clear hO9 hS9 hz9 hw9 hws
            go_wp2_with fail
            go_roundg (mu (fl.set j true) (way0 ++ [(⟨b, r, u⟩ : En)] ++ [(⟨j, nextL E.f.blocks j, .slice A8 n8 c8⟩ : En)]))
            case measure => exact Nat.lt_of_lt_of_le (mu_push HFJ.out hn2) RK.out
            case rel => exact ⟨_, _, _, HS, Nat.le_refl _, F9, HO9, O9, D9, V9, B9.out, hs9⟩
theorem order_any (E : FE) (m : Nat) (w : World) (hM : FM E w) (hm : Hid (E.f.blocks.length = m)) (hlim : Hid (m ≤ 1000000)) :
    Calls Try.prog 15 #[E.v] w fun e w' => ∃ o, OrdR E.f.blocks o ∧ RQ 1 intR o w e w' := by
  refine (order_lv E m w hM hm hlim).mono ?_
  rintro e w' ⟨o, v, h1, rfl, h2, h3⟩
  obtain ⟨A, k, rfl, hk, hS⟩ := h2.sl (ord_i64 h1 (by have := hm.out; have := hlim.out; omega))
  exact ⟨o, h1, A, k, rfl, hk, hS, h3⟩
end Go.Proofs.Ytpaddigjjlidcaa
