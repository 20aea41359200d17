/-
  CONTRACT: ir's addFun: a function's lines at the end of a row of one's own. Nothing else has turned.
-/
import Derived.Test.YtcbjcpmkebbfaaaDoorStrL
import Derived.Deep.CutRange
namespace Go.Proofs.YtcbjcpmkebbfaaaDoor
open Go Go.RowKit

theorem AddQ.trans {base : Nat} {v v1 v2 : Value} {l1 l2 : List ByteArray} {w w1 w2 : World} (h : AddQ base v l1 w v1 w1) (k : AddQ base v1 l2 w1 v2 w2) : AddQ base v l2 w v2 w2 :=
  ⟨k.ot, h.sv.trans k.sv (fun i hi => h.ow i hi), fun i hi => by
    rcases k.ow i hi with x | x
    · exact h.ow i x
    · exact .inr (Nat.le_trans h.sv.size x)⟩
theorem AddQ.on {base : Nat} {v v1 : Value} {l1 : List ByteArray} {w w1 w2 : World} (h : AddQ base v l1 w v1 w1) (b : Below w1.heap.size w1 w2) : AddQ base v l1 w v1 w2 := ⟨h.ot.keep b, h.sv.on b, h.ow⟩
theorem AddQ.back {base : Nat} {v v1 : Value} {l1 : List ByteArray} {w w0 w1 : World} (h : AddQ base v l1 w0 v1 w1) (b : Below w.heap.size w w0) : AddQ base v l1 w v1 w1 :=
  ⟨h.ot, (Sv.of (P := Ow v) b).trans h.sv (fun i hi => .inl hi), fun i hi => by
    rcases h.ow i hi with x | x
    · exact .inl x
    · exact .inr (Nat.le_trans b.size x)⟩
theorem AddQ.refl {base : Nat} {v : Value} {l : List ByteArray} {w : World} (h : OT w base v l) : AddQ base v l w v w := ⟨h, Sv.refl _ _, fun _ hk => .inl hk⟩
theorem AddQ.cell {base : Nat} {v v1 : Value} {l1 : List ByteArray} {w w1 : World} (h : AddQ base v l1 w v1 w1) {p : Addr} {x : Value} (hc : w.cell? p = some x) (hp : ¬ Ow v p.block) : w1.cell? p = some x := h.sv.cell hc hp
/-- The texts of a function are not too long. -/
structure BdN (f : Fn) : Prop where
  h : BdH f
  sl : f.slots.length ≤ 1000
  s : ∀ x ∈ f.slots, x.size ≤ 1048576
  i : ∀ x ∈ f.ins, BdX x
  bl : f.blocks.length ≤ 2048
  b : ∀ x ∈ f.blocks, x.list.length ≤ 2048
theorem slots_eq (f : Fn) : joinB [⟨#[115, 108, 111, 116, 115]⟩, joinB f.slots] = slotsS f ∨ f.slots = [] := by
  cases hs : f.slots with
  | nil => exact .inr rfl
  | cons x r =>
    left
    unfold slotsS
    rw [hs, joinB_two, joinB_cons, List.foldl_cons]
    have key : ∀ (r : List ByteArray) (a b : ByteArray), spS a (r.foldl spS b) = r.foldl spS (spS a b) := by
      intro r
      induction r with
      | nil => intro a b; rfl
      | cons y r ih =>
        intro a b
        rw [List.foldl_cons, List.foldl_cons, ih]
        congr 1
        unfold spS
        simp only [ba_assoc]
    exact key r _ x
theorem joinB_size (l : List ByteArray) (M : Nat) (h : ∀ x ∈ l, x.size ≤ M) : (joinB l).size ≤ l.length * (M + 1) := by
  have := join_len l M h
  show (Lib.join _ [32]).toArray.size ≤ _
  rw [List.size_toArray]; exact this
theorem block_len (f : Fn) (k : Nat) (b : Blk) : (blockL f k b).length = b.list.length + 2 := by unfold blockL; simp
theorem blocks_len {f : Fn} (h : BdN f) : ∀ k, k ≤ f.blocks.length → (blocksTo f k).length ≤ k * 2050
  | 0, _ => by simp [blocksTo]
  | k + 1, hk => by
    have ih := blocks_len h k (by omega)
    rw [blocksTo, List.length_append, List.getElem?_eq_getElem (by omega)]
    have h1 := h.b _ (List.getElem_mem (by omega : k < f.blocks.length))
    show _ + (blockL f k _).length ≤ _
    rw [block_len, Nat.succ_mul]
    omega
theorem blocks_up {f : Fn} {k : Nat} {b : Blk} (h : f.blocks[k]? = some b) : blocksTo f (k + 1) = blocksTo f k ++ blockL f k b := by rw [blocksTo, h]; rfl
/-- The lines of a block: its head, and so many of its places. -/
def blkTo (f : Fn) (k : Nat) (b : Blk) (q : Nat) : List ByteArray := blockH k :: (b.list.take q).map (lineS f)
theorem blkTo_up {f : Fn} {k q : Nat} {b : Blk} {n : Int} (h : b.list[q]? = some n) : blkTo f k b (q + 1) = blkTo f k b q ++ [lineS f n] := by
  unfold blkTo
  obtain ⟨p, e⟩ := List.getElem?_eq_some_iff.1 h
  rw [List.take_succ_eq_append_getElem p, List.map_append, e]; rfl
theorem blkTo_end (f : Fn) (k : Nat) (b : Blk) : blkTo f k b b.list.length ++ [endS b] = blockL f k b := by
  unfold blkTo blockL
  rw [List.take_of_length_le (Nat.le_refl _)]; rfl
theorem blockH_eq (k : Nat) : joinB [⟨#[98, 108, 111, 99, 107]⟩, num k] = blockH k := by rw [joinB_two]; rfl
def FRel (base : Nat) (v0 : Value) (w0 : World) (L : List ByteArray) (Q : Nat → List ByteArray) (m : Nat) (v i : Value) (wr : World) : Prop := ∃ k : Nat, k ≤ m ∧ i = .int .i64 k ∧ Hid (AddQ base v0 (L ++ Q k) w0 v wr)

set_option maxRecDepth 20000 in
set_option maxHeartbeats 4000000 in
theorem addFun_any (E : FE) (wz w : World) (v : Value) (l : List ByteArray) (hM : FM E wz) (hG : Gd wz) (hB : BdN E.f) (hbz : Below wz.heap.size wz w) (hO : OT w wz.heap.size v l) (hl : l.length ≤ 68719476736) :
    Calls Tryd.prog 31 #[v, E.v] w fun e w' => ∃ v', e = .returned v' ∧ AddQ wz.heap.size v (l ++ funL E.f) w v' w' := by
  have HB0 := Lib.hid (below_alloc w (.cells E.row 40))
  have HMZ := Lib.hid hM
  have HGZ := Lib.hid hG
  have HD := Lib.hid hB
  have HZ := Lib.hid hbz
  have HOV := Lib.hid hO
  have HL := Lib.hid hl
  have c0 : (w.alloc (.cells E.row 40)).cell? ⟨w.heap.size, 0, none⟩ = some (.string E.f.name) := cell_new w E.row 40 0
  have c1 : (w.alloc (.cells E.row 40)).cell? ⟨w.heap.size, 1, none⟩ = some (.slice E.pA E.f.params.length E.pc) := cell_new w E.row 40 1
  have c2 : (w.alloc (.cells E.row 40)).cell? ⟨w.heap.size, 2, none⟩ = some (.string E.f.res) := cell_new w E.row 40 2
  have c3 : (w.alloc (.cells E.row 40)).cell? ⟨w.heap.size, 3, none⟩ = some (.slice E.sA E.f.slots.length E.sc) := cell_new w E.row 40 3
  have c4 : (w.alloc (.cells E.row 40)).cell? ⟨w.heap.size, 4, none⟩ = some (.slice E.iA E.f.ins.length E.ic) := cell_new w E.row 40 4
  have c5 : (w.alloc (.cells E.row 40)).cell? ⟨w.heap.size, 5, none⟩ = some (.slice E.bA E.f.blocks.length E.bc) := cell_new w E.row 40 5
  have HNO : Hid (¬ Ow v w.heap.size) := fun h => by have := (hO.lo h).2; omega
  have HZU : Hid (Below wz.heap.size wz (w.alloc (.cells E.row 40))) := hbz.trans (HB0.out.mono hbz.size)
  have HOU := Lib.hid (hO.keep HB0.out)
  have HWZ : Hid ((w.alloc (.cells E.row 40)).heap.size = w.heap.size + 1) := by show _ = _; simp
  have HSU : Hid (wz.heap.size ≤ (w.alloc (.cells E.row 40)).heap.size) := HZU.out.size
  clear hM hG hB hbz hO hl
  unfold FE.v
  go_enter Tryd.func31, Tryd.ntmps31
  go_wp2_with (first | (at_builtin; refine Hid.out ?_) | (go_at_call 51; refine (headLine_any E _ (HMZ.out.drop HZU.out) HD.out.h).mono ?_; rintro e W1 ⟨rfl, b1⟩; have HB1 := Lib.hid b1; clear b1))
  generalize w.alloc (.cells E.row 40) = W0 at *
  refine Lib.hid ?_
  refine app_txt rfl (.tmp 9) (.tmp 12) 31 rfl Tryd.underlying31 W1 wz.heap.size v l (funS E.f) rfl (HOU.out.keep HB1.out) rfl (by have := HL.out; omega) (Nat.le_trans HSU.out HB1.out.size) ?_
  intro v2 W2 hO2 hS2 hz2 how2
  have HQ2 : Hid (AddQ wz.heap.size v (l ++ [funS E.f]) W0 v2 W2) := ((AddQ.refl HOU.out).on HB1.out).trans ⟨hO2, hS2, how2⟩
  clear hO2 hS2 hz2 how2
  have d3 := HQ2.out.cell c3 HNO.out
  have hsl : E.f.slots.length ≤ 1000 := HD.out.sl
  have hsl2 := HMZ.out.sle
  go_upto_if 17 with (fail)
  go_cut [0] from 17 (fun v3 wc => Hid (AddQ wz.heap.size v (l ++ (funS E.f :: slotsL E.f)) W0 v3 wc))
  case first =>
    by_cases h0 : E.f.slots.length = 0
    · have h1 : ¬ (0 : Int) < (E.f.slots.length : Int) := by omega
      have he : slotsL E.f = [] := if_pos h0
      have HQ3 : Hid (AddQ wz.heap.size v (l ++ (funS E.f :: slotsL E.f)) W0 v2 W2) := by show AddQ _ _ _ _ _ _; rw [he]; exact HQ2.out
      clear h0 he
      go_wp2_with fail
      go_meet
      case rel => exact HQ3
    · have h1 : (0 : Int) < (E.f.slots.length : Int) := by omega
      have he : slotsL E.f = [slotsS E.f] := if_neg h0
      have HE := Lib.hid he
      have HZ2 : Hid (Below wz.heap.size wz W2) := HZU.out.trans (HQ2.out.below HOU.out HSU.out)
      have K1 := Lib.hid (line_any E.sA E.sc E.f.slots.length E.f.slots W2 (sl_txt (HMZ.out.S.below kp_str HZ2.out (Nat.le_refl _))) rfl hsl2 (by omega) (fun x hx => by have := HD.out.s x hx; omega))
      have hsz := joinB_size E.f.slots 1048576 HD.out.s
      have hsq : joinB [⟨#[115, 108, 111, 116, 115]⟩, joinB E.f.slots] = slotsS E.f := by
        rcases slots_eq E.f with e | e
        · exact e
        · exact absurd (by rw [e]; rfl) h0
      obtain ⟨s1, hs1⟩ : ∃ s, joinB E.f.slots = s := ⟨_, rfl⟩
      rw [hs1] at K1 hsz hsq
      have hsz2 : s1.size ≤ 1073741824 := by
        have : E.f.slots.length * (1048576 + 1) ≤ 1000 * (1048576 + 1) := Nat.mul_le_mul_right _ hsl
        omega
      have HSQ := Lib.hid hsq
      clear h0 he hsz hs1 hsq
      go_wp2_with fail
      refine K1.out.mono ?_
      rintro e W3 ⟨rfl, b3⟩
      have HB3 := Lib.hid b3
      have K2 := Lib.hid (line_lit W3 [⟨#[115, 108, 111, 116, 115]⟩, s1] 2 #[.string ⟨#[115, 108, 111, 116, 115]⟩, .string s1] (by simp [txsV]) rfl (by omega) (by
        intro x hx
        simp only [List.mem_cons, List.not_mem_nil, or_false] at hx
        rcases hx with rfl | rfl
        · exact show (_ : Nat) ≤ _ from by decide
        · exact hsz2))
      rw [HSQ.out] at K2
      clear b3 K1 hsz2
      go_wp2_with fail
      refine K2.out.mono ?_
      rintro e W4 ⟨rfl, b4⟩
      have HQ4 := Lib.hid ((HQ2.out.on HB3.out).on b4)
      clear b4 K2
      go_wp2_with (at_builtin; refine Hid.out ?_)
      refine Lib.hid ?_
      refine app_txt rfl (.tmp 18) (.tmp 24) 31 rfl Tryd.underlying31 W4 wz.heap.size v2 (l ++ [funS E.f]) (slotsS E.f) rfl HQ4.out.ot rfl (by rw [List.length_append]; have := HL.out; simp only [List.length_cons, List.length_nil]; omega) (Nat.le_trans HSU.out HQ4.out.sv.size) ?_
      intro v5 W5 hO5 hS5 hz5 how5
      have HQ5 : Hid (AddQ wz.heap.size v (l ++ (funS E.f :: slotsL E.f)) W0 v5 W5) := HQ4.out.trans ⟨by rw [HE.out]; rw [List.append_assoc] at hO5; exact hO5, hS5, how5⟩
      clear hO5 hS5 hz5 how5
      go_wp2_with fail
      go_meet
      case rel => exact HQ5
  case rest =>
  have HQ := Lib.hid hcut.out
  clear HQ2 d3 hcut
  have hL0 : (l ++ (funS E.f :: slotsL E.f)).length ≤ l.length + 2 := by
    rw [List.length_append, List.length_cons]
    unfold slotsL
    split <;> simp
  have hfin : l ++ funL E.f = (l ++ (funS E.f :: slotsL E.f)) ++ blocksTo E.f E.f.blocks.length := by unfold funL; simp
  have HFIN := Lib.hid hfin
  obtain ⟨L0, hL⟩ : ∃ L, l ++ (funS E.f :: slotsL E.f) = L := ⟨_, rfl⟩
  rw [hL] at HQ hL0 HFIN
  have HL0 : Hid (L0.length ≤ 68719476738) := Nat.le_trans hL0 (by have := HL.out; omega)
  have HOWN : Hid (∀ (vx : Value) (Wx : World) (Lx : List ByteArray), AddQ wz.heap.size v Lx W0 vx Wx → ¬ Ow vx w.heap.size) := fun vx Wx Lx h ho => by
    rcases h.ow _ ho with x | x
    · exact HNO.out x
    · have := HWZ.out; omega
  have d5 := HQ.out.cell c5 HNO.out
  clear hL hL0 hfin
  have hbl : E.f.blocks.length ≤ 2048 := HD.out.bl
  go_wp2_with fail
  go_loopw [0, 29] (fun vv i wr => FRel wz.heap.size v W0 L0 (blocksTo E.f) E.f.blocks.length vv i wr) (fun _ i _ => E.f.blocks.length - (intOf i).toNat)
  case atStart => exact ⟨0, Nat.zero_le _, rfl, by show AddQ _ _ (L0 ++ []) _ _ _; rw [List.append_nil]; exact HQ.out⟩
  case round =>
    obtain ⟨k, hk, rfl, HK⟩ := hrel
    have HZR : Hid (Below wz.heap.size wz wr) := HZU.out.trans (HK.out.below HOU.out HSU.out)
    have HLK : Hid ((L0 ++ blocksTo E.f k).length ≤ 68723675138) := by
      show _ ≤ _
      have h1 := blocks_len HD.out k hk
      have h2 := HL0.out
      have h3 : k * 2050 ≤ 2048 * 2050 := Nat.mul_le_mul_right _ (by omega)
      rw [List.length_append]; omega
    by_cases hlt : k < E.f.blocks.length
    · obtain ⟨g, o, x, cs, hA, hx, hcr, hcs⟩ := two_at HMZ.out.B hlt
      obtain ⟨B, rfl, rfl, hBM⟩ := be_of hcr
      have x0 := keepB (hcs 0 _ rfl) HZR.out
      have x1 := keepB (hcs 1 _ rfl) HZR.out
      have x2 := keepB (hcs 2 _ rfl) HZR.out
      have x3 := keepB (hcs 3 _ rfl) HZR.out
      have x4 := keepB (hcs 4 _ rfl) HZR.out
      simp only [Nat.add_zero] at x0
      rw [hA]
      have HX := Lib.hid hx
      have HBM := Lib.hid hBM
      have HBL := Lib.hid (HD.out.b _ (List.mem_of_getElem? hx))
      have hbr := below_alloc wr (.cells #[.slice B.lA B.x.list.length B.lc, .int .i64 B.x.jump, .int .i64 B.x.arg, .int .i64 B.x.t0, .int .i64 B.x.t1] 53)
      have e0 : (wr.alloc (.cells #[.slice B.lA B.x.list.length B.lc, .int .i64 B.x.jump, .int .i64 B.x.arg, .int .i64 B.x.t0, .int .i64 B.x.t1] 53)).cell? ⟨wr.heap.size, 0, none⟩ = some (.slice B.lA B.x.list.length B.lc) := cell_new wr _ 53 0
      have e1 : (wr.alloc (.cells #[.slice B.lA B.x.list.length B.lc, .int .i64 B.x.jump, .int .i64 B.x.arg, .int .i64 B.x.t0, .int .i64 B.x.t1] 53)).cell? ⟨wr.heap.size, 1, none⟩ = some (.int .i64 B.x.jump) := cell_new wr _ 53 1
      have e2 : (wr.alloc (.cells #[.slice B.lA B.x.list.length B.lc, .int .i64 B.x.jump, .int .i64 B.x.arg, .int .i64 B.x.t0, .int .i64 B.x.t1] 53)).cell? ⟨wr.heap.size, 2, none⟩ = some (.int .i64 B.x.arg) := cell_new wr _ 53 2
      have e3 : (wr.alloc (.cells #[.slice B.lA B.x.list.length B.lc, .int .i64 B.x.jump, .int .i64 B.x.arg, .int .i64 B.x.t0, .int .i64 B.x.t1] 53)).cell? ⟨wr.heap.size, 3, none⟩ = some (.int .i64 B.x.t0) := cell_new wr _ 53 3
      have e4 : (wr.alloc (.cells #[.slice B.lA B.x.list.length B.lc, .int .i64 B.x.jump, .int .i64 B.x.arg, .int .i64 B.x.t0, .int .i64 B.x.t1] 53)).cell? ⟨wr.heap.size, 4, none⟩ = some (.int .i64 B.x.t1) := cell_new wr _ 53 4
      have HK4 := Lib.hid (HK.out.on hbr)
      have HZ4 := Lib.hid (HZR.out.trans (hbr.mono HZR.out.size))
      have HSB : Hid ((wr.alloc (.cells #[.slice B.lA B.x.list.length B.lc, .int .i64 B.x.jump, .int .i64 B.x.arg, .int .i64 B.x.t0, .int .i64 B.x.t1] 53)).heap.size = wr.heap.size + 1) := by show _ = _; simp
      have HNR : Hid (∀ j, Ow u0 j → j < wr.heap.size) := fun j hj => (HK.out.ot.lo hj).2
      clear hcs hx hcr hBM hA hbr
      go_wp2_with fail
      generalize wr.alloc (.cells #[.slice B.lA B.x.list.length B.lc, .int .i64 B.x.jump, .int .i64 B.x.arg, .int .i64 B.x.t0, .int .i64 B.x.t1] 53) = W4 at *
      obtain ⟨sb, hsb⟩ : ∃ b, wr.heap.size = b := ⟨_, rfl⟩
      rw [hsb] at e0 e1 e2 e3 e4 HSB HNR ⊢
      clear hsb x0 x1 x2 x3 x4
      have ik : I64 (k : Int) := ⟨by omega, by omega⟩
      have HT := Lib.hid (itoa_any (k : Int) W4 ik (HGZ.out.drop HZ4.out).pow)
      have hks := num_size (k : Int) ik
      have hbh := blockH_eq k
      obtain ⟨sk, hsk⟩ : ∃ s, num (k : Int) = s := ⟨_, rfl⟩
      rw [hsk] at HT hks hbh
      have HBH := Lib.hid hbh
      clear hsk hbh
      refine HT.out.mono ?_
      rintro e W5 ⟨rfl, b5⟩
      have HK5 := Lib.hid (HK4.out.on b5)
      have HB45 := Lib.hid b5
      have K6 := Lib.hid (line_lit W5 [⟨#[98, 108, 111, 99, 107]⟩, sk] 2 #[.string ⟨#[98, 108, 111, 99, 107]⟩, .string sk] (by simp [txsV]) rfl (by omega) (by
        intro x hx
        simp only [List.mem_cons, List.not_mem_nil, or_false] at hx
        rcases hx with rfl | rfl
        · exact show (_ : Nat) ≤ _ from by decide
        · omega))
      rw [HBH.out] at K6
      clear b5 HT
      go_wp2_with fail
      refine K6.out.mono ?_
      rintro e W6 ⟨rfl, b6⟩
      have HK6 := Lib.hid (HK5.out.on b6)
      have HB46 := Lib.hid (HB45.out.trans (b6.mono HB45.out.size))
      clear b6 K6 HK5
      go_wp2_with (at_builtin; refine Hid.out ?_)
      refine Lib.hid ?_
      refine app_txt rfl (.tmp 34) (.tmp 39) 31 rfl Tryd.underlying31 W6 wz.heap.size u0 (L0 ++ blocksTo E.f k) (blockH k) rfl HK6.out.ot rfl (by have := HLK.out; omega) (Nat.le_trans HSU.out HK6.out.sv.size) ?_
      intro v7 W7 hO7 hS7 hz7 how7
      have HQ67 : Hid (AddQ wz.heap.size u0 ((L0 ++ blocksTo E.f k) ++ blkTo E.f k B.x 0) W6 v7 W7) := ⟨hO7, hS7, how7⟩
      have HK7 := Lib.hid (HK6.out.trans HQ67.out)
      have HN7 : Hid (¬ Ow v7 sb) := fun h => by
        rcases HQ67.out.ow _ h with x | x
        · exact absurd (HNR.out _ x) (Nat.lt_irrefl _)
        · have h1 := HB46.out.size; rw [HSB.out] at h1; omega
      have HNX := HOWN.out _ _ _ HK7.out
      have HNsb : Hid (¬ Ow u0 sb) := fun x => absurd (HNR.out _ x) (Nat.lt_irrefl _)
      have g0 := HQ67.out.cell (keepB e0 HB46.out) HNsb.out
      have g1 := HQ67.out.cell (keepB e1 HB46.out) HNsb.out
      have g2 := HQ67.out.cell (keepB e2 HB46.out) HNsb.out
      have g3 := HQ67.out.cell (keepB e3 HB46.out) HNsb.out
      have g4 := HQ67.out.cell (keepB e4 HB46.out) HNsb.out
      have d0 := HK7.out.cell c0 HNO.out
      have d1 := HK7.out.cell c1 HNO.out
      have d2 := HK7.out.cell c2 HNO.out
      have d3 := HK7.out.cell c3 HNO.out
      have d4 := HK7.out.cell c4 HNO.out
      have d5 := HK7.out.cell c5 HNO.out
      have HNX := Lib.hid HNX
      have HZ7 : Hid (Below wz.heap.size wz W7) := HZU.out.trans (HK7.out.below HOU.out HSU.out)
      have hll := HBM.out.ll
      clear hO7 hS7 hz7 how7 e0 e1 e2 e3 e4 HK6 HK4 HB45 HB46 HNR HSB HQ67 HNsb hks
      go_wp2_with fail
      go_loopw [0, 44] (fun vv i wr => FRel wz.heap.size v7 W7 (L0 ++ blocksTo E.f k) (blkTo E.f k B.x) B.x.list.length vv i wr) (fun _ i _ => B.x.list.length - (intOf i).toNat)
      case atStart => exact ⟨0, Nat.zero_le _, rfl, AddQ.refl HK7.out.ot⟩
      case round =>
        obtain ⟨q, hq, rfl, HI⟩ := hrel
        have HZI : Hid (Below wz.heap.size wz wr) := HZ7.out.trans (HI.out.below HK7.out.ot HZ7.out.size)
        have HLI : Hid (((L0 ++ blocksTo E.f k) ++ blkTo E.f k B.x q).length ≤ 68723677200) := by
          show _ ≤ _
          have h1 : (blkTo E.f k B.x q).length ≤ q + 1 := by unfold blkTo; rw [List.length_cons, List.length_map, List.length_take]; omega
          have h2 := HLK.out
          have h3 := HBL.out
          rw [List.length_append]; omega
        by_cases hlq : q < B.x.list.length
        · obtain ⟨gg, oo, y, cs2, hA2, hy, ⟨rfl, iy⟩, hcs2⟩ := two_at HBM.out.L hlq
          have y0 := keepB (hcs2 0 _ rfl) HZI.out
          simp only [Nat.mul_one, Nat.add_zero] at y0
          have i0 := HI.out.cell d0 HNX.out
          have i1 := HI.out.cell d1 HNX.out
          have i2 := HI.out.cell d2 HNX.out
          have i3 := HI.out.cell d3 HNX.out
          have i4 := HI.out.cell d4 HNX.out
          have i5 := HI.out.cell d5 HNX.out
          have HUP := Lib.hid (blkTo_up (f := E.f) (k := k) hy)
          have K := Lib.hid (lineOf_any E y wr (HMZ.out.drop HZI.out) iy (HGZ.out.drop HZI.out) HD.out.i)
          rw [hA2]
          clear hcs2 hy hA2
          go_wp2_with (first | (at_builtin; refine Hid.out ?_) | (go_at_call 25; refine K.out.mono ?_; rintro e W8 ⟨rfl, b8⟩; have HB8 := Lib.hid b8; clear b8))
          have HI8 := Lib.hid (HI.out.on HB8.out)
          clear K i0 i1 i2 i3 i4 i5 y0 HB8
          refine Lib.hid ?_
          refine app_txt rfl (.tmp 48) (.tmp 52) 31 rfl Tryd.underlying31 W8 wz.heap.size u0 _ (lineS E.f y) rfl HI8.out.ot rfl (by have := HLI.out; omega) (Nat.le_trans HZ7.out.size HI8.out.sv.size) ?_
          intro v9 W9 hO9 hS9 hz9 how9
          have HI9 : Hid (AddQ wz.heap.size v7 ((L0 ++ blocksTo E.f k) ++ blkTo E.f k B.x (q + 1)) W7 v9 W9) := HI8.out.trans ⟨by rw [HUP.out, ← List.append_assoc]; exact hO9, hS9, how9⟩
          clear hO9 hS9 hz9 how9
          go_wp2_with fail
          go_roundw
          case rel => exact ⟨q + 1, hlq, by go_num, HI9⟩
          case measure => simp [intOf]; omega
        · obtain rfl : q = B.x.list.length := by omega
          have i0 := HI.out.cell g0 HN7.out
          have i1 := HI.out.cell g1 HN7.out
          have i2 := HI.out.cell g2 HN7.out
          have i3 := HI.out.cell g3 HN7.out
          have i4 := HI.out.cell g4 HN7.out
          have K := Lib.hid (endLine_any B wr (HBM.out.drop HZI.out) (HGZ.out.drop HZI.out))
          have HEND : Hid (blocksTo E.f (k + 1) = (blocksTo E.f k ++ blkTo E.f k B.x B.x.list.length) ++ [endS B.x]) := by
            show _ = _
            rw [blocks_up HX.out, ← blkTo_end, List.append_assoc]
          go_wp2_with (first | (at_builtin; refine Hid.out ?_) | (go_at_call 52; refine K.out.mono ?_; rintro e W8 ⟨rfl, b8⟩; have HB8 := Lib.hid b8; clear b8))
          have HI8 := Lib.hid (HI.out.on HB8.out)
          clear K i0 i1 i2 i3 i4 HB8
          refine Lib.hid ?_
          refine app_txt rfl (.tmp 55) (.tmp 58) 31 rfl Tryd.underlying31 W8 wz.heap.size u0 _ (endS B.x) rfl HI8.out.ot rfl (by have := HLI.out; omega) (Nat.le_trans HZ7.out.size HI8.out.sv.size) ?_
          intro v9 W9 hO9 hS9 hz9 how9
          have HI9 : Hid (AddQ wz.heap.size v7 (L0 ++ blocksTo E.f (k + 1)) W7 v9 W9) := HI8.out.trans ⟨by rw [HEND.out, ← List.append_assoc, ← List.append_assoc]; exact hO9, hS9, how9⟩
          have HKN := Lib.hid (HK7.out.trans HI9.out)
          clear hO9 hS9 hz9 how9
          go_wp2_with fail
          go_roundw
          case rel => exact ⟨k + 1, hlt, by go_num, HKN⟩
          case measure => simp [intOf]; omega
    · obtain rfl : k = E.f.blocks.length := by omega
      go_wp2_with fail
      go_ret
      exact ⟨_, rfl, by rw [HFIN.out]; exact HK.out.back HB0.out⟩

end Go.Proofs.YtcbjcpmkebbfaaaDoor
