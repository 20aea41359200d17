/-
  CONTRACT: ir's headLine; appending a row of texts to a row of one's own. Of what was there nothing has turned.
-/
import Derived.Test.YtcbjcpmkebbfaaaDoorStrS
namespace Go.Proofs.YtcbjcpmkebbfaaaDoor
open Go Go.RowKit

theorem run_append_zero (w : World) (base : Nat) (v : Value) (l : List ByteArray) (sp : Option Addr) (c : Nat) (ty : TypeId) (hO : OT w base v l) : (Builtin.append_ #[31, 31] ty #[v, .slice sp 0 c]).run Tryd.prog w = .ok v w := by
  obtain ⟨i0, hi0, hz0, hz1, hz2⟩ := info_parts txt_info
  have hl : ∀ (x : Addr), (loadCells x 0).run Tryd.prog w = .ok #[] w := fun x => by simpa using run_loadCells_list (P := Tryd.prog) w x [] (by simp)
  rcases hO.2 with ⟨rfl, h0⟩ | ⟨g, cap, cur, rfl, _, _, hnc, _⟩
  · cases sp <;> simp [Builtin.append_, run_underlying Tryd.underlying31, sizeOf, typeInfo, hi0, Builtin.lenOf, Builtin.firstCells, hl]
  · cases sp <;> simp [Builtin.append_, run_underlying Tryd.underlying31, sizeOf, typeInfo, hi0, Builtin.lenOf, Builtin.firstCells, hnc, storeCells, hl]
/-- A row of texts at the end of a row of one's own. -/
theorem app_many {ops : Array Oper} {rest : List Oper} {o : Oper} {a : Act} {Q : Exit → Act → World → Prop} (hgd : o.guard = none) (s x : Operand)
    (ho : o.op = .call { callee := .builtin .append, args := #[s, x], argTypes := #[31, 31] }) (w : World) (base : Nat) (v : Value) (l l2 : List ByteArray) (sp : Option Addr) (m c : Nat) (hs : a.eval s = v) (hO : OT w base v l)
    (hx : a.eval x = .slice sp m c) (hm : l2.length = m) (hR : SL 1 txtR w sp l2) (hl : l.length ≤ 1099511627776) (hl2 : m ≤ 1099511627776) (hb : base ≤ w.heap.size)
    (h : ∀ v' w', AddQ base v (l ++ l2) w v' w' → wpList Tryd.prog ops Q rest (a.put o.dst v') w') :
    wpList Tryd.prog ops Q (o :: rest) a w := by
  subst hm
  rcases Nat.eq_zero_or_pos l2.length with h0 | h0
  · rw [h0] at hx
    obtain rfl := List.length_eq_zero_iff.1 h0
    refine wpList_plain hgd fun K hK => ?_
    have hrun := run_append_zero w base v l sp c o.type hO
    unfold Oper.wp
    simp [execOp, ho, resolve, invoke, builtin, hs, hx, hrun, Result.andThen]
    exact hK _ _ (h v w ⟨by rw [List.append_nil]; exact hO, Sv.refl _ _, fun k hk => .inl hk⟩)
  · obtain ⟨i0, hi0, hz0, hz1, hz2⟩ := info_parts txt_info
    obtain ⟨bk, of, rfl, hbk, hcs⟩ := hR h0
    refine wpList_append_lies _ hgd s x 31 ho base 9 i0 _ 1 16 Tryd.underlying31 hi0 hz0 hz1 hz2 rfl (by omega) v l.length (txsV l) hs hO ⟨bk, of, none⟩ l2.length c (txsV l2) hx (by simp [txsV]) (fun j u hu => ?_) (fun u hu => ?_) h0 (by simp only [maxLen]; omega) (by omega) hb _ rfl ?_
    · unfold txsV at hu
      rw [List.getElem?_map] at hu
      cases hj : l2[j]? with
      | none => rw [hj] at hu; cases hu
      | some y =>
        rw [hj] at hu
        obtain rfl := Option.some.inj hu
        obtain ⟨cs, rfl, h3⟩ := hcs j y hj
        have := h3 0 _ rfl
        rw [Go.Addr.add_lit]
        simpa using this
    · obtain ⟨y, -, rfl⟩ := List.mem_map.1 hu
      rfl
    · intro g cap w2 hown hg hat hlt
      refine h _ _ ⟨?_, (Sv.refl _ _).grown hg (fun k hk => .inl hk), ?_⟩
      · show World.ownsRow _ _ _ _ _ _ _
        rw [List.length_append, txsV, List.map_append]; exact hown
      · intro k hk
        have e : some g = some k := hk
        obtain rfl := Option.some.inj e
        rcases hat with h1 | h1
        · exact .inl h1
        · exact .inr (Nat.le_of_eq h1.symm)
theorem AddQ.below {base : Nat} {v v' : Value} {l l' : List ByteArray} {w w' : World} (h : AddQ base v l w v' w') (hO : OT w base v l') (hb : base ≤ w.heap.size) : Below base w w' := h.sv.below (fun i hi => (hO.lo hi).1) hb

/-- The words of a function's head. -/
def hdW (f : Fn) : List ByteArray := addW (([⟨#[102, 117, 110, 99]⟩, f.name] ++ f.params) ++ [⟨#[45, 62]⟩]) f.res
theorem addS_eq (s t : ByteArray) : addS s t = if t.size = 0 then s else spS s t := rfl
theorem hd_eq (f : Fn) : joinB (hdW f) = funS f := by
  unfold hdW addW funS
  have e1 : spS (f.params.foldl spS (spS ⟨#[102, 117, 110, 99]⟩ f.name)) ⟨#[45, 62]⟩ = (f.params.foldl spS ((⟨#[102, 117, 110, 99, 32]⟩ : ByteArray) ++ f.name)) ++ ⟨#[32, 45, 62]⟩ := by
    show (_ ++ (⟨#[32]⟩ : ByteArray)) ++ (⟨#[45, 62]⟩ : ByteArray) = _
    rw [ba_assoc]; rfl
  rw [addS_eq]
  split
  all_goals simp only [List.cons_append, List.nil_append, joinB_cons, List.foldl_cons, List.foldl_append, List.foldl_nil, e1]
theorem sl_txt {w : World} {A : Option Addr} {l : List ByteArray} (h : SL 1 strR w A l) : SL 1 txtR w A l := fun h0 => by
  obtain ⟨b, o, hA, hb, hc⟩ := h h0
  refine ⟨b, o, hA, hb, fun _ x hx => ?_⟩
  obtain ⟨cs, hr, h1⟩ := hc _ x hx
  exact ⟨cs, hr.1, h1⟩
theorem addW_len (l : List ByteArray) (y : ByteArray) : (addW l y).length ≤ l.length + 1 := by unfold addW; split <;> simp
theorem addW_mem {l : List ByteArray} {y z : ByteArray} (h : z ∈ addW l y) : z ∈ l ∨ z = y := by
  unfold addW at h
  split at h
  · exact .inl h
  · simpa using h
/-- The texts of a function's head are not too long. -/
structure BdH (f : Fn) : Prop where
  n : f.name.size ≤ 1048576
  r : f.res.size ≤ 1048576
  pl : f.params.length ≤ 2048
  p : ∀ x ∈ f.params, x.size ≤ 1048576
theorem hdW_bd {f : Fn} (h : BdH f) : ∀ y ∈ hdW f, y.size ≤ 1073741824 := by
  intro y hy
  rcases addW_mem hy with hy | rfl
  · rcases List.mem_append.1 hy with hy | hy
    · rcases List.mem_append.1 hy with hy | hy
      · simp at hy
        rcases hy with rfl | rfl
        · exact show (4 : Nat) ≤ _ by omega
        · have := h.n; omega
      · have := h.p y hy; omega
    · simp at hy
      subst hy
      exact show (2 : Nat) ≤ _ by omega
  · have := h.r; omega

set_option maxRecDepth 20000 in
set_option maxHeartbeats 2000000 in
theorem headLine_any (E : FE) (w : World) (hM : FM E w) (hB : BdH E.f) : Calls Tryd.prog 51 #[E.v] w fun e w' => e = .returned (.string (funS E.f)) ∧ Below w.heap.size w w' := by
  have HB0 := Lib.hid (below_alloc w (.cells E.row 40))
  have HM := Lib.hid (hM.drop HB0.out)
  have HD := Lib.hid hB
  have HSZ : Hid ((w.alloc (.cells E.row 40)).heap.size = w.heap.size + 1) := by show _ = _; simp
  have hb1 := below_alloc (w.alloc (.cells E.row 40)) (.cells #[.string ⟨#[102, 117, 110, 99]⟩, .string E.f.name] 9)
  have HB1 := Lib.hid hb1
  have a0 : (w.alloc (.cells E.row 40)).cell? ⟨w.heap.size, 0, none⟩ = some (.string E.f.name) := cell_new w E.row 40 0
  have a1 := keepB (show (w.alloc (.cells E.row 40)).cell? ⟨w.heap.size, 1, none⟩ = some (.slice E.pA E.f.params.length E.pc) from cell_new w E.row 40 1) hb1
  have a2 := keepB (show (w.alloc (.cells E.row 40)).cell? ⟨w.heap.size, 2, none⟩ = some (.string E.f.res) from cell_new w E.row 40 2) hb1
  have HO := Lib.hid (OT.lit (w.alloc (.cells E.row 40)) (w.heap.size + 1) [⟨#[102, 117, 110, 99]⟩, E.f.name] #[.string ⟨#[102, 117, 110, 99]⟩, .string E.f.name] (by simp [txsV]) (Nat.le_of_eq HSZ.out.symm) (by simp))
  have HZ1 : Hid (((w.alloc (.cells E.row 40)).alloc (.cells #[.string ⟨#[102, 117, 110, 99]⟩, .string E.f.name] 9)).heap.size = w.heap.size + 2) := by show _ = _; simp
  rw [HSZ.out] at HO HB1
  simp only [List.length_cons, List.length_nil] at HO
  clear hM hB hb1
  rw [← hd_eq]
  unfold FE.v
  go_enter Tryd.func51, Tryd.ntmps51
  go_wp2_with (at_builtin; refine Hid.out ?_)
  generalize w.alloc (.cells E.row 40) = u0 at *
  generalize u0.alloc (.cells #[.string ⟨#[102, 117, 110, 99]⟩, .string E.f.name] 9) = u1 at *
  refine Lib.hid ?_
  refine app_many rfl (.tmp 7) (.tmp 9) rfl u1 (w.heap.size + 1) _ [⟨#[102, 117, 110, 99]⟩, E.f.name] E.f.params E.pA E.f.params.length E.pc rfl HO.out rfl rfl (sl_txt (HM.out.P.below kp_str HB1.out (Nat.le_of_eq HSZ.out))) (by simp) (by have := HD.out.pl; omega) (by rw [HZ1.out]; omega) ?_
  intro v2 u2 hq2
  have HQ2 := Lib.hid hq2
  have HB2 := Lib.hid (hq2.below HO.out (by rw [HZ1.out]; omega))
  have a2 := (HB2.out.cell (p := ⟨w.heap.size, 2, none⟩) (Nat.lt_succ_self _)).trans a2
  clear hq2 a0 a1
  have HL2 : Hid (([⟨#[102, 117, 110, 99]⟩, E.f.name] ++ E.f.params : List ByteArray).length ≤ 4000) := by show _ ≤ _; simp; have := HD.out.pl; omega
  have HS2 : Hid (w.heap.size + 2 ≤ u2.heap.size) := Nat.le_trans (Nat.le_of_eq HZ1.out.symm) HQ2.out.sv.size
  go_wp2_with (at_builtin; refine Hid.out ?_)
  refine Lib.hid ?_
  refine app_txt rfl (.tmp 11) (.tmp 12) 31 rfl Tryd.underlying31 u2 (w.heap.size + 1) v2 ([⟨#[102, 117, 110, 99]⟩, E.f.name] ++ E.f.params) ⟨#[45, 62]⟩ rfl HQ2.out.ot rfl (by have := HL2.out; omega) (by have := HS2.out; omega) ?_
  intro v3 u3 hO3 hS3 hz3 how3
  have HO3 := Lib.hid hO3
  have HB3 := Lib.hid (HB2.out.trans (hS3.below (B := w.heap.size + 1) (fun i hi => (HQ2.out.ot.lo hi).1) (by have := HS2.out; omega)))
  have a2 := ((hS3.below (B := w.heap.size + 1) (fun i hi => (HQ2.out.ot.lo hi).1) (by have := HS2.out; omega)).cell (p := ⟨w.heap.size, 2, none⟩) (Nat.lt_succ_self _)).trans a2
  have HS3 : Hid (w.heap.size + 2 ≤ u3.heap.size) := Nat.le_trans HS2.out hz3
  clear hO3 hS3 hz3 how3
  go_wp2_with fail
  refine (addIf_any (w.heap.size + 1) v3 (([⟨#[102, 117, 110, 99]⟩, E.f.name] ++ E.f.params) ++ [⟨#[45, 62]⟩]) E.f.res u3 HO3.out (by rw [List.length_append]; have := HL2.out; simp only [List.length_cons, List.length_nil]; omega) (by have := HS3.out; omega)).mono ?_
  rintro e u4 ⟨v4, rfl, hq4⟩
  have HO4 := Lib.hid (show OT u4 (w.heap.size + 1) v4 (hdW E.f) from hq4.ot)
  have HB4 := Lib.hid (HB3.out.trans (hq4.below HO3.out (by have := HS3.out; omega)))
  have HSZ4 : Hid (w.heap.size + 2 ≤ u4.heap.size) := Nat.le_trans HS3.out hq4.sv.size
  clear hq4 a2
  go_wp2_with fail
  refine (line_own HO4.out (by have h1 := addW_len (([⟨#[102, 117, 110, 99]⟩, E.f.name] ++ E.f.params) ++ [⟨#[45, 62]⟩]) E.f.res; unfold hdW; have h2 := HL2.out; rw [List.length_append] at h1; simp only [List.length_cons, List.length_nil] at h1; omega) (hdW_bd HD.out)).mono ?_
  rintro e u5 ⟨rfl, b5⟩
  have HB5 := Lib.hid (HB0.out.trans ((HB1.out.trans (HB4.out.trans (b5.mono (by have := HSZ4.out; omega)))).mono (by omega)))
  clear b5
  go_wp2_with fail
  go_ret
  exact ⟨rfl, HB5.out⟩

end Go.Proofs.YtcbjcpmkebbfaaaDoor
