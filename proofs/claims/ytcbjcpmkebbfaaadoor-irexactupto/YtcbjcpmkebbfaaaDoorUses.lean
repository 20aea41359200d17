/-
  CONTRACT: ir.Uses. Of what was there nothing has turned.
-/
import Derived.Test.YtcbjcpmkebbfaaaDoorUsList
import Derived.Test.YtcbjcpmkebbfaaaDoorIrUsesW
import Derived.Test.YtcbjcpmkebbfaaaDoorIrRow
namespace Go.Proofs.YtcbjcpmkebbfaaaDoor
open Go Go.RowKit

def intsV (l : List Int) : List Value := l.map fun n => .int .i64 n
theorem int_info : (Tryd.prog.info? 3).map (fun i => (i.zero, i.size, i.bytes)) = some (some (.int .i64 0), 1, 8) := by kernel_rfl
/-- A row of numbers of one's own. -/
def OI (w : World) (base : Nat) (v : Value) (l : List Int) : Prop := w.ownsRow base 3 1 v l.length (intsV l)
theorem OI.keep {w w' : World} {base : Nat} {v : Value} {l : List Int} (h : OI w base v l) (hb : Below w.heap.size w w') : OI w' base v l :=
  World.ownsRow.kept h (row := none) ⟨hb.os, hb.tape, hb.output, hb.size, fun i hi _ => hb.block i hi⟩ (by cases v.ownBlock <;> simp)
theorem OI.nil (w : World) (base : Nat) : OI w base (.slice none 0 0) [] := World.ownsRow_nil _ _ _ _
theorem OI.lo {w : World} {base : Nat} {v : Value} {l : List Int} (h : OI w base v l) {k : Nat} (hk : Ow v k) : base ≤ k ∧ k < w.heap.size := World.ownsRow.lt h k hk
theorem OI.sl {w : World} {base : Nat} {v : Value} {l : List Int} (h : OI w base v l) (hi : ∀ x ∈ l, I64 x) : ∃ A c, v = .slice A l.length c ∧ l.length ≤ c ∧ SL 1 intR w A l := by
  rcases h.2 with ⟨rfl, h0⟩ | ⟨g, cap, cur, rfl, hb, hg, hn, hc, hs, ht⟩
  · rw [h0]; exact ⟨none, 0, rfl, Nat.le_refl _, fun h => by omega⟩
  · refine ⟨_, cap, rfl, hn, fun hp => ⟨g, 0, rfl, (Array.getElem?_eq_some_iff.1 hg).1, fun k x hk => ?_⟩⟩
    have hkl := (List.getElem?_eq_some_iff.1 hk).1
    refine ⟨[.int .i64 x], ⟨rfl, hi x (List.mem_of_getElem? hk)⟩, fun j v hj => ?_⟩
    cases j with
    | zero =>
      obtain rfl := Option.some.inj hj
      rw [Nat.zero_add, Nat.mul_one]
      exact (World.ownsRow.cellAt h k (by simpa [intsV] using hkl)).trans (by unfold intsV; rw [List.getElem?_map, hk]; rfl)
    | succ j => simp at hj
/-- One number more at the end of a row of one's own. -/
theorem app_int {ops : Array Oper} {rest : List Oper} {o : Oper} {a : Act} {Q : Exit → Act → World → Prop} (hgd : o.guard = none) (s x : Operand) (t : TypeId)
    (ho : o.op = .call { callee := .builtin .append, args := #[s, x], argTypes := #[t, t] }) (ht : Tryd.prog.underlying t = some (.slice 3)) (w : World) (base : Nat) (v : Value) (l : List Int) (y : Int) (hs : a.eval s = v) (hO : OI w base v l)
    (hx : a.eval x = .slice (some ⟨w.heap.size, 0, none⟩) 1 1) (hl : l.length ≤ 1099511627776) (hb : base ≤ w.heap.size)
    (h : ∀ v' w', OI w' base v' (l ++ [y]) → Sv (Ow v) w w' → w.heap.size ≤ w'.heap.size → wpList Tryd.prog ops Q rest (a.put o.dst v') w') :
    wpList Tryd.prog ops Q (o :: rest) a (w.alloc (.cells #[.int .i64 y] 3)) := by
  obtain ⟨i0, hi0, hz0, hz1, hz2⟩ := info_parts int_info
  refine wpList_append_lies _ hgd s x t ho base 3 i0 _ 1 8 ht hi0 hz0 hz1 hz2 rfl (by omega) v l.length (intsV l) hs (hO.keep (below_alloc w _)) ⟨w.heap.size, 0, none⟩ 1 1 [.int .i64 y] hx rfl (World.news_of_block (heap_alloc_new w _)) (by simp [Value.oneCell']) (by omega) (by simp only [maxLen]; omega) (by omega) (by simp; omega) _ rfl ?_
  intro g cap w2 hown hg hat hlt
  refine h _ _ ?_ ((Sv.of (below_alloc w _)).grown hg (fun k hk => .inl hk)) ?_
  · show World.ownsRow _ _ _ _ _ _ _
    rw [List.length_append, intsV, List.map_append]; exact hown
  · have := hg.size; simp at this; omega
theorem uses_i64 (f : Fn) (n : Int) : ∀ k, k ≤ 140737488351232 → ∀ x ∈ usesTo f n k, I64 x
  | 0, _, x, h => by simp [usesTo] at h
  | k + 1, hk, x, h => by
    rw [usesTo, List.mem_append] at h
    rcases h with h | h
    · exact uses_i64 f n k (by omega) x h
    · split at h
      · obtain rfl := List.mem_singleton.1 h
        exact ⟨by omega, by omega⟩
      · cases h
theorem uses_yes (f : Fn) (n : Int) {k : Nat} (h : (listedB f k && hasL ((f.ins[k]?.map Ins.args).getD []) n) = true) : usesTo f n (k + 1) = usesTo f n k ++ [(k : Int)] := by rw [usesTo, if_pos h]
def U2Rel (w1 : World) (f : Fn) (n : Int) (v i : Value) (wr : World) : Prop := ∃ k : Nat, k ≤ f.ins.length ∧ i = .int .i64 k ∧ Hid (OI wr w1.heap.size v (usesTo f n k)) ∧ Hid (Below w1.heap.size w1 wr)

set_option maxRecDepth 20000 in
set_option maxHeartbeats 2000000 in
theorem uses_any (E : FE) (n : Int) (w : World) (hM : FM E w) (hn : I64 n) (hlen : E.f.ins.length ≤ 1099511627776) : Calls Tryd.prog 22 #[E.v, .int .i64 n] w (RowQ (usesL E.f n) w) := by
  have HB := Lib.hid (below_alloc w (.cells E.row 40))
  have HM0 := Lib.hid (hM.below HB.out (Nat.le_refl _))
  have c0 : (w.alloc (.cells E.row 40)).cell? ⟨w.heap.size, 0, none⟩ = some (.string E.f.name) := cell_new w E.row 40 0
  have c1 : (w.alloc (.cells E.row 40)).cell? ⟨w.heap.size, 1, none⟩ = some (.slice E.pA E.f.params.length E.pc) := cell_new w E.row 40 1
  have c2 : (w.alloc (.cells E.row 40)).cell? ⟨w.heap.size, 2, none⟩ = some (.string E.f.res) := cell_new w E.row 40 2
  have c3 : (w.alloc (.cells E.row 40)).cell? ⟨w.heap.size, 3, none⟩ = some (.slice E.sA E.f.slots.length E.sc) := cell_new w E.row 40 3
  have c4 : (w.alloc (.cells E.row 40)).cell? ⟨w.heap.size, 4, none⟩ = some (.slice E.iA E.f.ins.length E.ic) := cell_new w E.row 40 4
  have c5 : (w.alloc (.cells E.row 40)).cell? ⟨w.heap.size, 5, none⟩ = some (.slice E.bA E.f.blocks.length E.bc) := cell_new w E.row 40 5
  have HN := Lib.hid hn
  have HL := Lib.hid hlen
  clear hM hn hlen
  unfold FE.v
  go_enter Tryd.func22, Tryd.ntmps22
  go_wp2_with fail
  generalize w.alloc (.cells E.row 40) = u0 at *
  refine (listed_any E u0 HM0.out).mono ?_
  rintro e w1 ⟨rfl, hL, b1⟩
  have c4 := keepB c4 b1
  have HLB := Lib.hid hL
  have HB1 := Lib.hid (HB.out.trans (b1.mono HB.out.size))
  have HM1 := Lib.hid (HM0.out.drop b1)
  clear c0 c1 c2 c3 c5 hL b1
  go_wp2_with fail
  go_loopw [6, 14] (fun v i wr => U2Rel w1 E.f n v i wr) (fun _ i _ => E.f.ins.length - (intOf i).toNat)
  case atStart => exact ⟨0, Nat.zero_le _, rfl, OI.nil _ _, Below.refl _ _⟩
  case round =>
    obtain ⟨k, hk, rfl, HO, HBR⟩ := hrel
    by_cases hlt : k < E.f.ins.length
    · have hil := HL.out
      obtain ⟨g, o, x, cs, hA, hx, hcr, hcs⟩ := two_at HM1.out.I hlt
      obtain ⟨X, rfl, rfl, hXM⟩ := ie_of hcr
      have x0 := keepB (hcs 0 _ rfl) HBR.out
      have x1 := keepB (hcs 1 _ rfl) HBR.out
      have x2 := keepB (hcs 2 _ rfl) HBR.out
      have x3 := keepB (hcs 3 _ rfl) HBR.out
      have x4 := keepB (hcs 4 _ rfl) HBR.out
      simp only [Nat.add_zero] at x0
      rw [hA]
      have HX := Lib.hid hx
      have HXM := Lib.hid hXM
      have hbr := below_alloc wr (.cells #[.int .i64 X.x.op, .string X.x.typ, .slice X.aA X.x.args.length X.ac, .int .i64 X.x.n, .string X.x.name] 47)
      have HB2 := Lib.hid (HBR.out.trans (hbr.mono HBR.out.size))
      have HO2 := Lib.hid (HO.out.keep hbr)
      obtain ⟨m0, -, -⟩ := (HLB.out.below HB2.out).at hlt
      have n2 : (wr.alloc (.cells #[.int .i64 X.x.op, .string X.x.typ, .slice X.aA X.x.args.length X.ac, .int .i64 X.x.n, .string X.x.name] 47)).cell? ⟨wr.heap.size, 2, none⟩ = some (.slice X.aA X.x.args.length X.ac) := cell_new wr _ 47 2
      have hval0 : (listedB E.f k && hasL ((E.f.ins[k]?.map Ins.args).getD []) n) = (listedB E.f k && hasL X.x.args n) := by rw [hx]; rfl
      have HVAL := Lib.hid hval0
      clear hcs hx hcr hXM hA hbr hval0
      cases hm : listedB E.f k with
      | false =>
        rw [hm] at m0
        have HV2 := Lib.hid (uses_no E.f n (HVAL.out.trans (by rw [hm]; rfl)))
        clear hm
        go_wp2_with fail
        go_roundw
        case rel => exact ⟨k + 1, hlt, by go_num, by rw [HV2.out]; exact HO2, HB2⟩
        case measure => simp [intOf]; omega
      | true =>
        rw [hm] at m0
        obtain ⟨d, hd⟩ : ∃ d, hasL X.x.args n = d := ⟨_, rfl⟩
        have HD := Lib.hid hd
        have HV2 : Hid ((listedB E.f k && hasL ((E.f.ins[k]?.map Ins.args).getD []) n) = d) := HVAL.out.trans (by rw [hm, hd]; rfl)
        have HKA := Lib.hid (HXM.out.A.below kp_int HB2.out (Nat.le_refl _))
        have hXl := HXM.out.al
        clear hm hd
        go_wp2_with fail
        refine (contains_any X.aA X.ac X.x.args.length X.x.args n d _ HKA.out (Lib.hid rfl) hXl HD).mono ?_
        rintro e w5 ⟨rfl, rfl⟩
        cases d with
        | false =>
          have HV3 := Lib.hid (uses_no E.f n HV2.out)
          go_wp2_with fail
          go_roundw
          case rel => exact ⟨k + 1, hlt, by go_num, by rw [HV3.out]; exact HO2, HB2⟩
          case measure => simp [intOf]; omega
        | true =>
          have HV3 := Lib.hid (uses_yes E.f n HV2.out)
          clear m0 x0 x1 x2 x3 x4 n2
          generalize wr.alloc (.cells #[.int .i64 X.x.op, .string X.x.typ, .slice X.aA X.x.args.length X.ac, .int .i64 X.x.n, .string X.x.name] 47) = u5 at *
          have hlen2 : (usesTo E.f n k).length ≤ 1099511627776 := Nat.le_trans (uses_len E.f n k) (by omega)
          have HL2 := Lib.hid hlen2
          clear hlen2
          go_wp2_with (at_builtin; refine Hid.out ?_)
          refine Lib.hid ?_
          refine app_int rfl (.tmp 29) (.tmp 31) 42 rfl Tryd.underlying42 u5 w1.heap.size u6 (usesTo E.f n k) k rfl HO2.out rfl HL2.out HB2.out.size ?_
          intro v' w' hO' hS hsz
          have HO3 := Lib.hid (show OI w' w1.heap.size v' (usesTo E.f n (k + 1)) by rw [HV3.out]; exact hO')
          have HB3 := Lib.hid (HB2.out.trans (hS.below (fun i hi => (HO2.out.lo hi).1) HB2.out.size))
          clear hO' hS hsz
          go_wp2_with fail
          go_roundw
          case rel => exact ⟨k + 1, hlt, by go_num, HO3, HB3⟩
          case measure => simp [intOf]; omega
    · obtain rfl : k = E.f.ins.length := by omega
      obtain ⟨A, c, rfl, hc, hs⟩ := HO.out.sl (uses_i64 E.f n _ (by have := HL.out; omega))
      have HC := Lib.hid hc
      have HSL := Lib.hid hs
      clear hc hs
      go_wp2_with fail
      go_ret
      exact ⟨A, c, rfl, HC.out, HSL.out, HB1.out.trans (HBR.out.mono HB1.out.size)⟩

end Go.Proofs.YtcbjcpmkebbfaaaDoor
