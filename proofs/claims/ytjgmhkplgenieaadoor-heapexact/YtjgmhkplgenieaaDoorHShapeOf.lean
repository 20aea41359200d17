/-
  CONTRACTS: shapeOf of package heap: a struct's shape. Conditions: none of our own but that the struct has at most eight fields.
-/
import Derived.Test.YtjgmhkplgenieaaDoorHNear
namespace Go.Proofs.YtjgmhkplgenieaaDoor
open Go.RowKit

def lkS (fs : List Fld) (k : Nat) (j : Nat) : Bool := ((links fs fs.length).take k).contains j
def shR (s : Str) (k : Nat) : Array Value := #[.string s.name, .int .i64 s.fields.length, .bool (lkS s.fields k 0), .bool (lkS s.fields k 1), .bool (lkS s.fields k 2), .bool (lkS s.fields k 3), .bool (lkS s.fields k 4), .bool (lkS s.fields k 5), .bool (lkS s.fields k 6), .bool (lkS s.fields k 7)]
theorem lkS_all (fs : List Fld) (k : Nat) (hk : (links fs fs.length).length ≤ k) (j : Nat) : lkS fs k j = linkB fs j := by
  unfold lkS
  rw [List.take_of_length_le hk]
  cases hl : linkB fs j with
  | true =>
    have hj : j < fs.length := by
      rcases Nat.lt_or_ge j fs.length with h1 | h1
      · exact h1
      · unfold linkB at hl
        rw [List.getElem?_eq_none h1] at hl
        cases hl
    rw [List.contains_iff_mem]
    unfold links
    rw [List.mem_filter]
    exact ⟨List.mem_range.2 hj, hl⟩
  | false =>
    cases hc : (links fs fs.length).contains j with
    | false => rfl
    | true =>
      rw [List.contains_iff_mem] at hc
      unfold links at hc
      rw [(List.mem_filter.1 hc).2] at hl
      cases hl
theorem lkS_step {fs : List Fld} {k p : Nat} (h : (links fs fs.length)[k]? = some p) (j : Nat) : lkS fs (k + 1) j = (lkS fs k j || j == p) := by
  unfold lkS
  rw [List.take_succ_eq_append_getElem (List.getElem?_eq_some_iff.1 h).1, (List.getElem?_eq_some_iff.1 h).2]
  by_cases hj : j = p <;> simp [hj]
theorem shR_step {s : Str} {k p : Nat} (h : (links s.fields s.fields.length)[k]? = some p) (hp : p < 8) : (shR s k).setIfInBounds (2 + p) (.bool true) = shR s (k + 1) := by
  have e := lkS_step h
  unfold shR
  rw [e 0, e 1, e 2, e 3, e 4, e 5, e 6, e 7]
  match p, hp with
  | 0, _ => simp
  | 1, _ => simp
  | 2, _ => simp
  | 3, _ => simp
  | 4, _ => simp
  | 5, _ => simp
  | 6, _ => simp
  | 7, _ => simp
theorem link_lt {fs : List Fld} {k p : Nat} (h : (links fs fs.length)[k]? = some p) : p < fs.length := by
  have hm := List.mem_of_getElem? h
  unfold links at hm
  exact List.mem_range.1 (List.mem_filter.1 hm).1

def IR (w : World) (A : Option Addr) (ls : List Nat) : Prop := 0 < ls.length → ∃ g, A = some ⟨g, 0, none⟩ ∧ g < w.heap.size ∧ ∀ (k : Nat) (p : Nat), ls[k]? = some p → w.cell? ⟨g, k, none⟩ = some (.int .i64 p)
theorem ir_own {w : World} {base : Nat} {v : Value} {ls : List Nat} (h : w.ownsRow base 3 1 v ls.length (intsOf ls)) : ∃ A c, v = .slice A ls.length c ∧ ls.length ≤ c ∧ IR w A ls ∧ ∀ a, A = some a → base ≤ a.block := by
  rcases h.2 with ⟨rfl, h0⟩ | ⟨g, cap, cur, rfl, h1, h2, h3, h4⟩
  · exact ⟨none, 0, by rw [h0], by omega, fun h => by omega, fun a ha => by cases ha⟩
  · refine ⟨_, cap, rfl, h3, fun _ => ⟨g, rfl, (h.lt g rfl).2, fun k p hp => ?_⟩, fun a ha => by obtain rfl := Option.some.inj ha; exact h1⟩
    rw [h.cellAt k (by have := (List.getElem?_eq_some_iff.1 hp).1; omega)]
    unfold intsOf
    rw [List.getElem?_map, hp]; rfl
def z10 : Array Value := #[.string ⟨#[]⟩, .int .i64 0, .bool false, .bool false, .bool false, .bool false, .bool false, .bool false, .bool false, .bool false]
theorem zero70 (w : World) : (zeroValue 70).run Tryd.prog w = .ok (.agg z10) w := by kernel_rfl
theorem info70 : (Tryd.prog.info? 70).map (·.size) = some 10 := by kernel_rfl
def SoRel (w : World) (s : Str) (vb : Nat) (n : Nat) (A : Option Addr) (i : Value) (wr : World) : Prop :=
  ∃ k : Nat, k ≤ n ∧ i = .int .i64 k ∧ Hid (At wr vb 70 (shR s k)) ∧ Hid (IR wr A (links s.fields s.fields.length)) ∧ Hid (∀ a, A = some a → a.block ≠ vb) ∧ Hid (Below w.heap.size w wr) ∧ Hid (At wr (w.heap.size + 1) 70 z10)

set_option maxRecDepth 100000 in
set_option maxHeartbeats 2000000 in
theorem shapeOf_any (s : Str) (A : Option Addr) (c m : Nat) (w : World) (hK : KeysIn w) (hR : FR w A s.fields) (hm : Hid (s.fields.length = m)) (h8 : m ≤ 8) :
    Calls Tryd.prog 24 #[.agg #[.string s.name, .slice A m c]] w fun e w' => e = .returned (shA s) ∧ Below w.heap.size w w' := by
  have HK := Lib.hid hK
  have HR := Lib.hid hR
  clear hK hR
  go_enter Tryd.func24, Tryd.ntmps24
  go_wp2_with (first | (refine wpList_alloc_row rfl 70 rfl z10 zero70 ?_; refine Hid.out ?_))
  have A0 := Lib.hid ((at_new w 52 #[.string s.name, .slice A m c]).alloc (.cells z10 70))
  have AZ := at_new (w.alloc (.cells #[.string s.name, .slice A m c] 52)) 70 z10
  have hs0 : (w.alloc (.cells #[.string s.name, .slice A m c] 52)).heap.size = w.heap.size + 1 := by simp
  rw [hs0] at AZ
  have AZ := Lib.hid AZ
  have hs1 : ((w.alloc (.cells #[.string s.name, .slice A m c] 52)).alloc (.cells z10 70)).heap.size = w.heap.size + 2 := by simp
  have B1 := Lib.hid (((Below.refl _ w).alloc (Nat.le_refl _) (.cells #[.string s.name, .slice A m c] 52)).alloc (by simp) (.cells z10 70))
  generalize (w.alloc (.cells #[.string s.name, .slice A m c] 52)).alloc (.cells z10 70) = w1 at *
  have c0 : w1.cell? ⟨w.heap.size, 0, none⟩ = some (.string s.name) := A0.out.cell 0
  have c1 : w1.cell? ⟨w.heap.size, 1, none⟩ = some (.slice A m c) := A0.out.cell 1
  refine Lib.hid ?_
  go_wp2_with (first | (refine wpList_build_row rfl 70 _ rfl #[.string s.name, .int .i64 m, .bool false, .bool false, .bool false, .bool false, .bool false, .bool false, .bool false, .bool false] (by kernel_rfl) ?_; refine Hid.out ?_))
  refine Lib.hid ?_
  go_wp2_with (first | (go_at_call 40; refine Hid.out ?_))
  have A2 := at_new w1 70 #[.string s.name, .int .i64 m, .bool false, .bool false, .bool false, .bool false, .bool false, .bool false, .bool false, .bool false]
  rw [hs1] at A2
  have hs2 : (w1.alloc (.cells #[.string s.name, .int .i64 m, .bool false, .bool false, .bool false, .bool false, .bool false, .bool false, .bool false, .bool false] 70)).heap.size = w.heap.size + 3 := by simp [hs1]
  have B2 := Lib.hid (B1.out.alloc (by omega) (.cells #[.string s.name, .int .i64 m, .bool false, .bool false, .bool false, .bool false, .bool false, .bool false, .bool false, .bool false] 70))
  have Z2 := Lib.hid (AZ.out.alloc (.cells #[.string s.name, .int .i64 m, .bool false, .bool false, .bool false, .bool false, .bool false, .bool false, .bool false, .bool false] 70))
  have A2 : Hid (At (w1.alloc (.cells #[.string s.name, .int .i64 m, .bool false, .bool false, .bool false, .bool false, .bool false, .bool false, .bool false, .bool false] 70)) (w.heap.size + 2) 70 (shR s 0)) := by
    unfold shR
    rw [hm.out]
    exact A2
  clear c0 c1 A0 AZ B1
  generalize w1.alloc (.cells #[.string s.name, .int .i64 m, .bool false, .bool false, .bool false, .bool false, .bool false, .bool false, .bool false, .bool false] 70) = w2 at *
  refine Lib.hid ?_
  refine (links_any s.name A c m s.fields w2 (HK.out.below B2.out (Nat.le_refl _)) (HR.out.below B2.out (Nat.le_refl _)) hm (by omega)).mono ?_
  rintro e w3 ⟨lv, rfl, ol, b3⟩
  rw [show links s.fields m = links s.fields s.fields.length by rw [hm.out]] at ol
  obtain ⟨LA, lc, rfl, hlc, hir, hla⟩ := ir_own ol
  have A3 := Lib.hid (A2.out.below b3 (by omega))
  have Z3 := Lib.hid (Z2.out.below b3 (by omega))
  have B3 := Lib.hid (B2.out.trans (b3.mono (by omega)))
  have HIR := Lib.hid hir
  have HLA : Hid (∀ a, LA = some a → a.block ≠ w.heap.size + 2) := fun a ha => by have := hla a ha; omega
  have hsz3 : w.heap.size + 3 ≤ w3.heap.size := by have := b3.size; omega
  obtain ⟨n, hn⟩ : ∃ n, (links s.fields s.fields.length).length = n := ⟨_, rfl⟩
  have HN := Lib.hid hn
  have hn8 : n ≤ 8 := by have := links_len s.fields s.fields.length; have := hm.out; omega
  rw [hn] at hlc
  rw [hn]
  clear A2 Z2 B2 hir hla ol b3 hn hs1 hs2 hs0
  go_wp2_with fail
  go_loopw [15] (fun i wr => SoRel w s (w.heap.size + 2) n LA i wr) (fun i _ => n - (intOf i).toNat)
  case atStart => exact ⟨0, Nat.zero_le _, rfl, A3, HIR, HLA, B3, Z3⟩
  case round =>
    obtain ⟨k, hk, rfl, HA, HI, HL, HB, HZ⟩ := hrel
    by_cases hlt : k < n
    · obtain ⟨p, hp⟩ : ∃ p, (links s.fields s.fields.length)[k]? = some p := ⟨_, List.getElem?_eq_getElem (by have := HN.out; omega)⟩
      obtain ⟨g, rfl, hg, hgc⟩ := HI.out (by have := HN.out; omega)
      have cp := hgc k p hp
      have hp8 : p < 8 := by have := link_lt hp; have := hm.out; omega
      have hst := shR_step hp hp8
      have hgn : g ≠ w.heap.size + 2 := HL.out _ rfl
      obtain ⟨x, hx⟩ : ∃ x, (shR s k)[2 + p]? = some x := ⟨_, Array.getElem?_eq_getElem (show 2 + p < 10 by omega)⟩
      have q0 : wr.cell? ⟨w.heap.size + 2, 2 + p, none⟩ = some x := (HA.out.cell (2 + p)).trans hx
      have q1 : wr.frozen? ⟨w.heap.size + 2, 2 + p, none⟩ = false := HA.out.frozen (2 + p)
      have HST := Lib.hid hst
      have HGC := Lib.hid hgc
      have hsx := Nat.lt_of_lt_of_le (show w.heap.size + 2 < w.heap.size + 3 by omega) hsz3
      clear hp hst hx hgc
      go_wp2_with fail
      go_roundw
      case rel =>
        refine ⟨k + 1, by omega, by go_num, ?_, fun h0 => ⟨g, rfl, by simpa [World.setCell] using hg, fun q y hy => ?_⟩, HL, HB.out.setCell (p := ⟨w.heap.size + 2, 2 + p, none⟩) (by show w.heap.size ≤ w.heap.size + 2; omega) _, HZ.out.setCellOther (by omega) _⟩
        · show At _ _ _ _
          rw [← HST.out]
          exact HA.out.setCell _
        · exact (World.cell?_of_block (w := wr) (a := ⟨g, q, none⟩) (Below.heap_setCell _ _ _ _ hgn)).trans (HGC.out q y hy)
      case measure => simp [intOf]; omega
    · obtain rfl : k = n := by omega
      have HE : shR s k = #[.string s.name, .int .i64 s.fields.length, .bool (linkB s.fields 0), .bool (linkB s.fields 1), .bool (linkB s.fields 2), .bool (linkB s.fields 3), .bool (linkB s.fields 4), .bool (linkB s.fields 5), .bool (linkB s.fields 6), .bool (linkB s.fields 7)] := by
        have hk2 : (links s.fields s.fields.length).length ≤ k := by rw [HN.out]; exact Nat.le_refl _
        unfold shR
        rw [lkS_all _ k hk2, lkS_all _ k hk2, lkS_all _ k hk2, lkS_all _ k hk2, lkS_all _ k hk2, lkS_all _ k hk2, lkS_all _ k hk2, lkS_all _ k hk2]
      have hA := HA.out
      rw [HE] at hA
      have HSA : Hid (shA s = .agg #[.string s.name, .int .i64 s.fields.length, .bool (linkB s.fields 0), .bool (linkB s.fields 1), .bool (linkB s.fields 2), .bool (linkB s.fields 3), .bool (linkB s.fields 4), .bool (linkB s.fields 5), .bool (linkB s.fields 6), .bool (linkB s.fields 7)]) := rfl
      have HAF := Lib.hid hA
      have p0 := hA.cell 0
      have p1 := hA.cell 1
      have p2 := hA.cell 2
      have p3 := hA.cell 3
      have p4 := hA.cell 4
      have p5 := hA.cell 5
      have p6 := hA.cell 6
      have p7 := hA.cell 7
      have p8 := hA.cell 8
      have p9 := hA.cell 9
      simp only [List.getElem?_toArray, List.getElem?_cons_zero, List.getElem?_cons_succ] at p0 p1 p2 p3 p4 p5 p6 p7 p8 p9
      clear hA
      generalize linkB s.fields 0 = b0 at *
      generalize linkB s.fields 1 = b1 at *
      generalize linkB s.fields 2 = b2 at *
      generalize linkB s.fields 3 = b3 at *
      generalize linkB s.fields 4 = b4 at *
      generalize linkB s.fields 5 = b5 at *
      generalize linkB s.fields 6 = b6 at *
      generalize linkB s.fields 7 = b7 at *
      go_wp2_with (first | (refine wpList_store_row rfl 70 _ _ rfl (w.heap.size + 1) #[.string s.name, .int .i64 s.fields.length, .bool b0, .bool b1, .bool b2, .bool b3, .bool b4, .bool b5, .bool b6, .bool b7] rfl rfl 70 z10 HZ.out info70 rfl (by simp [Value.oneCell']) ?_; refine Hid.out ?_))
      have hR := HZ.out.setSame (cs' := #[.string s.name, .int .i64 s.fields.length, .bool b0, .bool b1, .bool b2, .bool b3, .bool b4, .bool b5, .bool b6, .bool b7])
      have BR := Lib.hid (below_setRow (g := w.heap.size + 1) HB.out (by omega) #[.string s.name, .int .i64 s.fields.length, .bool b0, .bool b1, .bool b2, .bool b3, .bool b4, .bool b5, .bool b6, .bool b7])
      generalize wr.setRow (w.heap.size + 1) #[.string s.name, .int .i64 s.fields.length, .bool b0, .bool b1, .bool b2, .bool b3, .bool b4, .bool b5, .bool b6, .bool b7] = w9 at *
      have r0 := hR.cell 0
      have r1 := hR.cell 1
      have r2 := hR.cell 2
      have r3 := hR.cell 3
      have r4 := hR.cell 4
      have r5 := hR.cell 5
      have r6 := hR.cell 6
      have r7 := hR.cell 7
      have r8 := hR.cell 8
      have r9 := hR.cell 9
      simp only [List.getElem?_toArray, List.getElem?_cons_zero, List.getElem?_cons_succ] at r0 r1 r2 r3 r4 r5 r6 r7 r8 r9
      clear hR
      refine Lib.hid ?_
      go_wp2_with fail
      exact bodyPost_ret (v := .agg #[.string s.name, .int .i64 s.fields.length, .bool b0, .bool b1, .bool b2, .bool b3, .bool b4, .bool b5, .bool b6, .bool b7]) (by simp [results, Tryd.results24, go_sem, r0, r1, r2, r3, r4, r5, r6, r7, r8, r9]) rfl ⟨congrArg Ending.returned HSA.out.symm, BR.out⟩

end Go.Proofs.YtjgmhkplgenieaaDoor
