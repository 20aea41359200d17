/-
  CONTRACT: flow's Back: who leads to somebody who doesn't stand behind. Of what was there nothing has turned; the row is new.
-/
import Derived.Test.YtpaddigjjlidcaaFlWr
namespace Go.Proofs.Ytpaddigjjlidcaa
open Go.RowKit

theorem srt_eq : ∀ (l l' : List Int), l.Pairwise (· < ·) → l'.Pairwise (· < ·) → (∀ x, x ∈ l ↔ x ∈ l') → l = l'
  | [], [], _, _, _ => rfl
  | [], b :: r, _, _, h => absurd ((h b).2 List.mem_cons_self) (by simp)
  | a :: r, [], _, _, h => absurd ((h a).1 List.mem_cons_self) (by simp)
  | a :: r, b :: r', h1, h2, h => by
    rw [List.pairwise_cons] at h1 h2
    have e : a = b := by
      have p := (h a).1 List.mem_cons_self
      have q := (h b).2 List.mem_cons_self
      rcases List.mem_cons.1 p with p | p
      · exact p
      · rcases List.mem_cons.1 q with q | q
        · exact q.symm
        · have := h1.1 _ q; have := h2.1 _ p; omega
    subst e
    rw [srt_eq r r' h1.2 h2.2 (fun x => ?_)]
    constructor
    · intro p
      rcases List.mem_cons.1 ((h x).1 (List.mem_cons_of_mem _ p)) with q | q
      · have := h1.1 _ p; omega
      · exact q
    · intro p
      rcases List.mem_cons.1 ((h x).2 (List.mem_cons_of_mem _ p)) with q | q
      · have := h2.1 _ p; omega
      · exact q
def srt (l : List Int) : List Int := l.mergeSort fun x y => decide (x ≤ y)
theorem srt_mem {l : List Int} {x : Int} : x ∈ srt l ↔ x ∈ l := by unfold srt; rw [List.mem_mergeSort]
theorem srt_lt {l : List Int} (hn : l.Nodup) : (srt l).Pairwise (· < ·) := by
  have h := List.pairwise_mergeSort (le := fun (x y : Int) => decide (x ≤ y)) (by intro a b c; simp; omega) (by intro a b; simp; omega) l
  have h2 : (srt l).Nodup := (List.mergeSort_perm l _).nodup_iff.2 hn
  exact (h.and h2).imp (fun ⟨a, b⟩ => by have := of_decide_eq_true a; omega)
/-- The pairs of one block, out of its sorted next ones. -/
def rowS (o : List Int) (i : Nat) (l : List Int) : List (Int × Int) := (l.filter fun x => decide (o.idxOf x ≤ o.idxOf (i : Int))).map fun x => ((i : Int), x)
theorem rowS_up {o : List Int} {i q : Nat} {l : List Int} {x : Int} (h : l[q]? = some x) : rowS o i (l.take (q + 1)) = rowS o i (l.take q) ++ (if o.idxOf x ≤ o.idxOf (i : Int) then [((i : Int), x)] else []) := by
  obtain ⟨p, e⟩ := List.getElem?_eq_some_iff.1 h
  unfold rowS
  rw [List.take_succ_eq_append_getElem p, e, List.filter_append, List.map_append]
  congr 1
  by_cases q : o.idxOf x ≤ o.idxOf (i : Int)
  · rw [if_pos q, List.filter_cons, if_pos (decide_eq_true q)]; rfl
  · rw [if_neg q, List.filter_cons, if_neg (by simp only [decide_eq_false q]; simp)]; rfl
theorem rowS_all (bl : List Blk) (o : List Int) (i : Nat) (h : (i : Int) ∈ o) : rowS o i (srt (nextL bl i)) = rowB bl o i := by
  unfold rowB
  rw [if_pos h]
  unfold rowS rowTo
  have e : (srt (nextL bl i)).filter (fun x => decide (o.idxOf x ≤ o.idxOf (i : Int))) = ((List.range bl.length).filter fun (k : Nat) => decide ((k : Int) ∈ nextL bl i) && decide (o.idxOf (k : Int) ≤ o.idxOf (i : Int))).map (fun (k : Nat) => (k : Int)) := by
    apply srt_eq
    · exact (srt_lt (next_nodup bl i)).filter _
    · rw [List.pairwise_map]
      exact (List.pairwise_lt_range.filter _).imp (fun h => by omega)
    · intro x
      rw [List.mem_filter, srt_mem, List.mem_map]
      constructor
      · rintro ⟨h1, h2⟩
        have h3 := next_in h1
        refine ⟨x.toNat, List.mem_filter.2 ⟨List.mem_range.2 (by omega), ?_⟩, by omega⟩
        rw [Int.toNat_of_nonneg h3.1, decide_eq_true h1, h2]; rfl
      · rintro ⟨k, h1, rfl⟩
        have := (List.mem_filter.1 h1).2
        simp only [Bool.and_eq_true, decide_eq_true_eq] at this
        exact ⟨this.1, decide_eq_true this.2⟩
  rw [e, List.map_map]; rfl
/-- slices.Sort of a row of one's own. -/
theorem sort_any (v : Value) (l : List Int) (B : Nat) (w : World) (hO : OI w B v l) (hl : l.length ≤ 1000000) :
    Calls Try.prog 26 #[v] w fun e w' => e = .returned (.tuple #[]) ∧ Below B w w' ∧ LV (fun b => b < B) w' v (srt l) := by
  rcases hO.2 with ⟨rfl, h0⟩ | ⟨g, cap, cur, rfl, hb, hg, hnn, -⟩
  · obtain rfl : l = [] := List.length_eq_zero_iff.1 h0
    refine (Try.slices_Sort_int_none none 0 w).mono ?_
    rintro e w' ⟨rfl, rfl⟩
    have e0 : srt [] = [] := List.eq_nil_iff_forall_not_mem.2 (fun x hx => by have := srt_mem.1 hx; cases this)
    rw [e0]
    exact ⟨rfl, Below.refl _ _, none, 0, rfl, Nat.le_refl _, fun h => absurd h (Nat.lt_irrefl _)⟩
  · have hgs : g < w.heap.size := (Array.getElem?_eq_some_iff.1 hg).1
    refine (Try.slices_Sort_int g 0 cap l w (row_own hO) hgs (by omega)).mono ?_
    rintro e w' ⟨rfl, q, os, rfl⟩
    have h2 := Go.Sort.holds_putRow (Value.int .i64) (Go.Sort.ahead w q) g 0 l.toArray (srt l).toArray (Go.Sort.holds_ahead _ w q g 0 _ (row_own hO)) (by unfold srt; simp)
    have h3 : Row (Go.Sort.grow (Go.Sort.putRow (Value.int .i64) (Go.Sort.ahead w q) g 0 (srt l).toArray) os) g (srt l) := Go.Sort.holds_grow _ _ os g 0 _ (by simpa using hgs) h2
    have hb2 : Below B w (Go.Sort.grow (Go.Sort.putRow (Value.int .i64) (Go.Sort.ahead w q) g 0 (srt l).toArray) os) := (below_put _ hb).trans (below_growS os (by simp; omega))
    exact ⟨rfl, hb2, row_lv h3 (Nat.lt_of_lt_of_le hgs hb2.size) (by omega) (by unfold srt; simp) hnn⟩

/-! Rows of pairs. -/
def prC (p : Int × Int) : List Value := [.int .i64 p.1, .int .i64 p.2]
def prV (l : List (Int × Int)) : List Value := l.flatMap prC
theorem prV_len (l : List (Int × Int)) : (prV l).length = l.length * 2 := by
  unfold prV
  induction l with
  | nil => rfl
  | cons a r ih => rw [List.flatMap_cons, List.length_append, ih]; simp [prC]; omega
theorem prV_app (l r : List (Int × Int)) : prV (l ++ r) = prV l ++ prV r := by unfold prV; rw [List.flatMap_append]
def OP (w : World) (base : Nat) (s : Value) (l : List (Int × Int)) : Prop := w.ownsRow base 38 2 s l.length (prV l)
theorem OP.sv {w w' : World} {P : Nat → Prop} {base : Nat} {v : Value} {l : List (Int × Int)} (h : OP w base v l) (hs : Sv P w w') (hp : ∀ g, Ow v g → ¬ P g) : OP w' base v l := own_sv h hs hp
theorem OP.lo {w : World} {base : Nat} {v : Value} {l : List (Int × Int)} (h : OP w base v l) {k : Nat} (hk : Ow v k) : base ≤ k ∧ k < w.heap.size := World.ownsRow.lt h k hk
theorem OP.keep {w w' : World} {base : Nat} {v : Value} {l : List (Int × Int)} (h : OP w base v l) (hb : Below w.heap.size w w') : OP w' base v l := own_below h hb
theorem OP.nil (w : World) (base : Nat) : OP w base (.slice none 0 0) [] := World.ownsRow_nil _ _ _ _
theorem OP.sl {w : World} {base : Nat} {v : Value} {l : List (Int × Int)} (h : OP w base v l) (hi : ∀ p ∈ l, I64 p.1 ∧ I64 p.2) : ∃ A k, v = .slice A l.length k ∧ l.length ≤ k ∧ SL 2 prR w A l := by
  rcases h.2 with ⟨rfl, h0⟩ | ⟨g, cap, cur, rfl, hb, hg, hn, hc, hs, ht⟩
  · exact ⟨none, 0, by rw [h0], by omega, fun h => by omega⟩
  · refine ⟨_, cap, rfl, hn, fun hp => ⟨g, 0, rfl, (Array.getElem?_eq_some_iff.1 hg).1, fun i p hx => ⟨prC p, ⟨rfl, hi p (List.mem_of_getElem? hx)⟩, fun j v hj => ?_⟩⟩⟩
    have hil := (List.getElem?_eq_some_iff.1 hx).1
    have hj2 : j < 2 := by have := (List.getElem?_eq_some_iff.1 hj).1; simpa [prC] using this
    rw [Nat.zero_add, World.ownsRow.cellAt h (i * 2 + j) (by omega)]
    obtain ⟨p0, e0⟩ := List.getElem?_eq_some_iff.1 hx
    have e : prV l = prV (l.take i) ++ (prC p ++ prV (l.drop (i + 1))) := by
      conv => lhs; rw [← List.take_append_drop i l, List.drop_eq_getElem_cons hil, e0]
      rw [prV_app]; rfl
    rw [e, List.getElem?_append_right (by rw [prV_len, List.length_take]; omega), prV_len, List.length_take, List.getElem?_append_left (by simp [prC]; omega), show i * 2 + j - min i l.length * 2 = j by omega]
    exact hj
theorem pr_info : (Try.prog.info? 38).map (fun i => (i.zero, i.size, i.bytes)) = some (some (.agg #[.int .i64 0, .int .i64 0]), 2, 16) := by kernel_rfl
theorem app_pr {ops : Array Oper} {rest : List Oper} {o : Oper} {a : Act} {Q : Exit → Act → World → Prop} (hgd : o.guard = none) (s x : Operand) (t : TypeId)
    (ho : o.op = .call { callee := .builtin .append, args := #[s, x], argTypes := #[t, t] }) (ht : Try.prog.underlying t = some (.slice 38)) (w : World) (base : Nat) (v : Value) (l : List (Int × Int)) (y : Int × Int) (hs : a.eval s = v) (hO : OP w base v l)
    (hx : a.eval x = .slice (some ⟨w.heap.size, 0, none⟩) 1 1) (hl : l.length ≤ 1099511627776) (hb : base ≤ w.heap.size)
    (h : ∀ v' w', OP w' base v' (l ++ [y]) → Sv (Ow v) w w' → w.heap.size ≤ w'.heap.size → (∀ k, Ow v' k → Ow v k ∨ w.heap.size ≤ k) → wpList Try.prog ops Q rest (a.put o.dst v') w') :
    wpList Try.prog ops Q (o :: rest) a (w.alloc (.cells #[.int .i64 y.1, .int .i64 y.2] 38)) := by
  obtain ⟨i0, hi0, hz0, hz1, hz2⟩ := info_parts pr_info
  refine wpList_append_lies _ hgd s x t ho base 38 i0 _ 2 16 ht hi0 hz0 hz1 hz2 rfl (by omega) v l.length (prV l) hs (hO.keep (below_alloc w _)) ⟨w.heap.size, 0, none⟩ 1 1 [.int .i64 y.1, .int .i64 y.2] hx rfl (World.news_of_block (heap_alloc_new w _)) (by simp [Value.oneCell']) (by omega) (by simp only [maxLen]; omega) (by omega) (by simp; omega) _ rfl ?_
  intro g cap w2 hown hg hat hlt
  refine h _ _ ?_ ((Sv.of (below_alloc w _)).grown hg (fun k hk => .inl hk)) ?_ ?_
  · show World.ownsRow _ _ _ _ _ _ _
    rw [List.length_append, prV_app]; exact hown
  · have := hg.size; simp at this; omega
  · intro k hk
    have e : some g = some k := hk
    obtain rfl := Option.some.inj e
    rcases hat with h1 | h1
    · exact .inl h1
    · exact .inr (by rw [h1]; simp)
theorem back_in {bl : List Blk} {o : List Int} {i : Nat} (hi : i ≤ bl.length) : ∀ p ∈ backTo bl o i, (0 ≤ p.1 ∧ p.1 < bl.length) ∧ (0 ≤ p.2 ∧ p.2 < bl.length) := fun p hp => by
  unfold backTo at hp
  obtain ⟨a, ha, hp⟩ := List.mem_flatMap.1 hp
  have ha := List.mem_range.1 ha
  unfold rowB at hp
  split at hp
  · unfold rowTo at hp
    obtain ⟨k, hk, rfl⟩ := List.mem_map.1 hp
    have := List.mem_range.1 (List.mem_filter.1 hk).1
    exact ⟨⟨by simp, by simp; omega⟩, ⟨by simp, by simp; omega⟩⟩
  · cases hp
theorem rowS_len (o : List Int) (i : Nat) (l : List Int) : (rowS o i l).length ≤ l.length := by unfold rowS; rw [List.length_map]; exact List.length_filter_le _ _
theorem backTo_len (bl : List Blk) (o : List Int) : ∀ i, (backTo bl o i).length ≤ i * bl.length
  | 0 => by unfold backTo; simp
  | i + 1 => by
    rw [backTo_up, List.length_append]
    have := backTo_len bl o i
    have h : (rowB bl o i).length ≤ bl.length := by
      unfold rowB rowTo
      split
      · rw [List.length_map]
        exact Nat.le_trans (List.length_filter_le _ _) (by simp)
      · simp
    rw [Nat.succ_mul]; omega
def BkRel (w2 : World) (bl : List Blk) (o : List Int) (m : Nat) (v kv : Value) (wr : World) : Prop := ∃ i : Nat, i ≤ m ∧ kv = .int .i64 i ∧ Hid (OP wr w2.heap.size v (backTo bl o i)) ∧ Below w2.heap.size w2 wr
def BkRel2 (w2 : World) (ps : List (Int × Int)) (o : List Int) (i : Nat) (nv : Value) (l : List Int) (ln : Nat) (v kv : Value) (wr : World) : Prop :=
  ∃ q : Nat, q ≤ ln ∧ kv = .int .i64 q ∧ Hid (OP wr w2.heap.size v (ps ++ rowS o i (l.take q))) ∧ Hid (LV (fun b => b < w2.heap.size ∨ Ow v b) wr nv l) ∧ Below w2.heap.size w2 wr
set_option maxRecDepth 100000 in
set_option maxHeartbeats 1000000 in
theorem back_any (E : FE) (m : Nat) (w : World) (hM : FM E w) (hm : Hid (E.f.blocks.length = m)) (hlim : Hid (m ≤ 100000)) :
    Calls Try.prog 19 #[E.v] w fun e w' => ∃ o, OrdR E.f.blocks o ∧ RQ 2 prR (backL E.f.blocks o) w e w' := by
  have hmb := hlim.out
  have HB := Lib.hid (below_alloc w (.cells E.row 26))
  have HM := Lib.hid (hM.below HB.out (Nat.le_refl _))
  have c0 : (w.alloc (.cells E.row 26)).cell? ⟨w.heap.size, 0, none⟩ = some (.string E.f.name) := cell_new w E.row 26 0
  have c1 : (w.alloc (.cells E.row 26)).cell? ⟨w.heap.size, 1, none⟩ = some (.slice E.pA E.f.params.length E.pc) := cell_new w E.row 26 1
  have c2 : (w.alloc (.cells E.row 26)).cell? ⟨w.heap.size, 2, none⟩ = some (.string E.f.res) := cell_new w E.row 26 2
  have c3 : (w.alloc (.cells E.row 26)).cell? ⟨w.heap.size, 3, none⟩ = some (.slice E.sA E.f.slots.length E.sc) := cell_new w E.row 26 3
  have c4 : (w.alloc (.cells E.row 26)).cell? ⟨w.heap.size, 4, none⟩ = some (.slice E.iA E.f.ins.length E.ic) := cell_new w E.row 26 4
  have c5 : (w.alloc (.cells E.row 26)).cell? ⟨w.heap.size, 5, none⟩ = some (.slice E.bA E.f.blocks.length E.bc) := cell_new w E.row 26 5
  have C : Hid (_ ∧ _ ∧ _ ∧ _ ∧ _ ∧ _) := ⟨c0, c1, c2, c3, c4, c5⟩
  have hsz : (w.alloc (.cells E.row 26)).heap.size = w.heap.size + 1 := by simp
  clear hM
  unfold FE.v
  go_enter Try.func19, Try.ntmps19
  go_wp2_with fail
  refine (standings_any E m _ HM.out hm (Lib.hid (by omega))).mono ?_
  rintro e w2 ⟨o, gs, hO, rfl, hN, hgs, hb2⟩
  clear c0 c1 c2 c3 c4 c5
  generalize w.alloc (.cells E.row 26) = w0 at *
  have hgw : w.heap.size < w0.heap.size := by omega
  have HB0 := Lib.hid hb2
  have HB2 := Lib.hid (HB.out.trans (hb2.mono HB.out.size))
  have HO := Lib.hid hO
  have HN2 := Lib.hid hN
  have hgs2 := hN.lt
  have hz2 : w0.heap.size ≤ w2.heap.size := hb2.size
  have HOI : Hid (∀ x ∈ o, 0 ≤ x ∧ x < m) := by show ∀ x ∈ o, 0 ≤ x ∧ x < m; rw [← hm.out]; exact ord_in hO
  clear hb2 hO hN
  go_wp2_with fail
  go_loopw [4, 14] (fun v kv wr => BkRel w2 E.f.blocks o m v kv wr) (fun _ kv _ => m - (intOf kv).toNat)
  case atStart => exact ⟨0, Nat.zero_le _, rfl, OP.nil _ _, Below.refl _ _⟩
  case round =>
    obtain ⟨i, hi, rfl, RP, hbr⟩ := hrel
    have HBR := Lib.hid hbr
    have hs0 := hbr.size
    by_cases hlt : i < m
    · have N3 := HN2.out.below hbr
      have g0 := N3.cell (mapR_get (f := plN o) hlt)
      clear N3
      by_cases hio : (i : Int) ∈ o
      · obtain ⟨ix, hix⟩ : ∃ n, o.idxOf (i : Int) = n := ⟨_, rfl⟩
        have hpl : plN o i = (ix : Int) := by unfold plN; rw [if_pos hio, hix]
        have HPL := Lib.hid hpl
        have HIX := Lib.hid hix
        rw [hpl] at g0
        have hne : ((ix : Int) == -1) = false := beq_eq_false_iff_ne.2 (by omega)
        obtain ⟨c0, c1, c2, c3, c4, c5⟩ := C.out
        have hw0 : w.heap.size < w2.heap.size := by omega
        have k0 := (hbr.cell (p := ⟨w.heap.size, 0, none⟩) hw0).trans (keepB c0 HB0.out)
        have k1 := (hbr.cell (p := ⟨w.heap.size, 1, none⟩) hw0).trans (keepB c1 HB0.out)
        have k2 := (hbr.cell (p := ⟨w.heap.size, 2, none⟩) hw0).trans (keepB c2 HB0.out)
        have k3 := (hbr.cell (p := ⟨w.heap.size, 3, none⟩) hw0).trans (keepB c3 HB0.out)
        have k4 := (hbr.cell (p := ⟨w.heap.size, 4, none⟩) hw0).trans (keepB c4 HB0.out)
        have k5 := (hbr.cell (p := ⟨w.heap.size, 5, none⟩) hw0).trans (keepB c5 HB0.out)
        have HMR := Lib.hid (HM.out.below (HB0.out.trans (hbr.mono hz2)) (Nat.le_refl _))
        have HIO := Lib.hid hio
        clear c0 c1 c2 c3 c4 c5 hpl hix hio hw0
        go_wp2_with fail
        refine (next_any E i wr HMR.out ⟨by omega, by omega⟩).mono ?_
        rintro e w5 ⟨nv, rfl, hO5, hb5⟩
        have hl2 := next_two E.f.blocks i
        clear k0 k1 k2 k3 k4 k5 HMR g0
        go_wp2_with fail
        refine (sort_any nv _ wr.heap.size w5 hO5 (by omega)).mono ?_
        rintro e w6 ⟨rfl, hb6, hV6⟩
        have b56 := hb5.trans hb6
        have P6 : Hid (OP w6 w2.heap.size u4 (backTo E.f.blocks o i ++ rowS o i ((srt (nextL E.f.blocks i)).take 0))) := by
          show OP _ _ _ _
          rw [List.take_zero, show rowS o i [] = [] from rfl, List.append_nil]
          exact RP.out.keep b56
        have B6 := Lib.hid (HBR.out.trans (b56.mono hs0))
        have V6 : Hid (LV (fun b => b < w2.heap.size ∨ Ow u4 b) w6 nv (srt (nextL E.f.blocks i))) := hV6.sv (P := fun _ => False) (Sv.refl _ _) (fun _ h => h.elim) (fun b _ h => by
          rcases h with h | h
          · omega
          · exact (RP.out.lo h).2)
        obtain ⟨l, hl⟩ : ∃ l, srt (nextL E.f.blocks i) = l := ⟨_, rfl⟩
        rw [hl] at P6 V6
        have HL := Lib.hid hl
        obtain ⟨ln, hln⟩ : ∃ n, l.length = n := ⟨_, rfl⟩
        have hln2 : ln ≤ 2 := by
          rw [← hln, ← hl]
          unfold srt
          rw [List.length_mergeSort]; exact hl2
        obtain ⟨A, c, hv, -⟩ := id V6.out
        rw [hln] at hv
        subst hv
        have HLN := Lib.hid hln
        have HIN : Hid (∀ x ∈ l, x ∈ nextL E.f.blocks i) := by
          show ∀ x ∈ l, _
          rw [← hl]; exact fun x hx => srt_mem.1 hx
        have hsz6 := b56.size
        have HPS : Hid ((backTo E.f.blocks o i).length ≤ 10000000000) := by
          show _ ≤ _
          have h1 := backTo_len E.f.blocks o i
          rw [hm.out] at h1
          have h2 : i * m ≤ 100000 * 100000 := Nat.mul_le_mul (by omega) (by omega)
          omega
        have HBU := Lib.hid (backTo_up E.f.blocks o i)
        generalize backTo E.f.blocks o i = ps at *
        clear hO5 hb5 hb6 b56 hV6 hl hln hbr hl2
        go_wp2_with fail
        go_loopw [4, 28] (fun v kv wr => BkRel2 w2 ps o i (.slice A ln c) l ln v kv wr) (fun _ kv _ => ln - (intOf kv).toNat)
        case atStart => exact ⟨0, Nat.zero_le _, rfl, P6, V6, B6.out⟩
        case round =>
          obtain ⟨q, hq, rfl, RP2, RV2, hbr2⟩ := hrel
          have HBR2 := Lib.hid hbr2
          have hs2 := hbr2.size
          by_cases hlq : q < ln
          · obtain ⟨A2, c2, hvv, -, hlc⟩ := id RV2.out
            have HLC := Lib.hid hlc
            clear hlc
            injection hvv with e1 e2 e3
            subst e1 e3
            clear e2
            obtain ⟨lb, lo, rfl, hlb, hnn, hcs⟩ := HLC.out (by have := HLN.out; omega)
            obtain ⟨x, hx⟩ : ∃ x, l[q]? = some x := ⟨_, List.getElem?_eq_getElem (by have := HLN.out; omega)⟩
            have hxn := HIN.out x (List.mem_of_getElem? hx)
            have hxin := next_in hxn
            rw [hm.out] at hxin
            obtain ⟨j, rfl⟩ : ∃ j : Nat, x = j := ⟨x.toNat, by omega⟩
            have x0 := hcs q _ hx
            have hjm : j < m := by omega
            have N4 := HN2.out.below hbr2
            have g0 := N4.cell (mapR_get (f := plN o) hjm)
            have hjo : (j : Int) ∈ o := next_ord (ord_facts HO.out (by rw [hm.out]; omega)) HIO.out hxn
            obtain ⟨jx, hjx⟩ : ∃ n, o.idxOf (j : Int) = n := ⟨_, rfl⟩
            have hpl : plN o j = (jx : Int) := by unfold plN; rw [if_pos hjo, hjx]
            rw [hpl] at g0
            have HU := Lib.hid (rowS_up (o := o) (i := i) hx)
            have hlt2 : (rowS o i (l.take q)).length ≤ 2 := Nat.le_trans (rowS_len _ _ _) (by rw [List.length_take]; omega)
            have HJX := Lib.hid hjx
            clear hcs hx hxn hxin HLC N4 hjo hpl hjx hbr2
            by_cases hle : jx ≤ ix
            · have HV : Hid (rowS o i (l.take (q + 1)) = rowS o i (l.take q) ++ [((i : Int), (j : Int))]) := by
                show _ = _
                rw [HU.out, if_pos (by rw [HJX.out, HIX.out]; exact hle)]
              go_wp2_with (at_builtin; refine Hid.out ?_)
              refine Lib.hid ?_
              refine app_pr rfl (.tmp 38) (.tmp 42) 41 rfl Try.underlying41 _ w2.heap.size _ _ ((i : Int), (j : Int)) rfl RP2.out rfl (by rw [List.length_append]; have := HPS.out; omega) hs2 ?_
              intro v2 w7 hO7 hS7 hz7 hw7
              have P7 : Hid (OP w7 w2.heap.size v2 (ps ++ rowS o i (l.take (q + 1)))) := by
                show OP _ _ _ _
                rw [HV.out, ← List.append_assoc]; exact hO7
              have V7 : Hid (LV (fun b => b < w2.heap.size ∨ Ow v2 b) w7 (.slice (some ⟨lb, lo, none⟩) ln c) l) := RV2.out.sv hS7 (fun b h => .inr h) (fun b hb h => by
                rcases h with h | h
                · exact .inl h
                · rcases hw7 b h with h | h
                  · exact .inr h
                  · omega)
              have B7 := Lib.hid (HBR2.out.trans (hS7.below (fun k hk => (RP2.out.lo hk).1) hs2))
              clear hO7 hS7 hz7 hw7 g0 x0
              go_wp2_with fail
              go_roundw
              case rel => exact ⟨q + 1, by omega, by go_num, P7, V7, B7.out⟩
              case measure => simp [intOf]; omega
            · have HV : Hid (OP wr w2.heap.size u4 (ps ++ rowS o i (l.take (q + 1)))) := by
                show OP _ _ _ _
                rw [HU.out, if_neg (by rw [HJX.out, HIX.out]; exact hle), List.append_nil]
                exact RP2.out
              go_wp2_with fail
              go_roundw
              case rel => exact ⟨q + 1, by omega, by go_num, HV, RV2, HBR2.out⟩
              case measure => simp [intOf]; omega
          · have HT : Hid (OP wr w2.heap.size u4 (backTo E.f.blocks o (i + 1))) := by
              show OP _ _ _ _
              rw [HBU.out, ← rowS_all E.f.blocks o i HIO.out, HL.out]
              have h := RP2.out
              rw [List.take_of_length_le (by have := HLN.out; omega)] at h
              exact h
            clear hbr2 RP2 RV2
            go_wp2_with fail
            go_roundw
            case rel => exact ⟨i + 1, by omega, by go_num, HT, HBR2.out⟩
            case measure => simp [intOf]; omega
      · have hpl : plN o i = -1 := by unfold plN; rw [if_neg hio]
        rw [hpl] at g0
        have HT : Hid (OP wr w2.heap.size u4 (backTo E.f.blocks o (i + 1))) := by
          show OP _ _ _ _
          rw [backTo_up]
          unfold rowB
          rw [if_neg hio, List.append_nil]
          exact RP.out
        clear hpl hio hbr
        go_wp2_with fail
        go_roundw
        case rel => exact ⟨i + 1, by omega, by go_num, HT, HBR.out⟩
        case measure => simp [intOf]; omega
    · obtain rfl : i = m := by omega
      have HL : Hid (OP wr w2.heap.size u4 (backL E.f.blocks o)) := by
        show OP _ _ _ _
        rw [back_eq, hm.out]; exact RP.out
      obtain ⟨A, c, hv, hc, hS⟩ := HL.out.sl (fun p hp => by
        rw [back_eq] at hp
        have := back_in (Nat.le_refl _) p hp
        rw [hm.out] at this
        exact ⟨⟨by omega, by omega⟩, ⟨by omega, by omega⟩⟩)
      have HS := Lib.hid hS
      have HC := Lib.hid hc
      have HW := Lib.hid (HB2.out.trans (hbr.mono (by omega)))
      clear hbr hS RP HL hc
      subst hv
      generalize hln : (backL E.f.blocks o).length = ln at *
      go_wp2_with fail
      go_ret
      exact ⟨o, HO.out, A, c, by rw [hln]; rfl, by rw [hln]; exact HC.out, HS.out, HW.out⟩
end Go.Proofs.Ytpaddigjjlidcaa
