/-
  CONTRACT: ir's structLine. Of what was there nothing has turned.
-/
import Derived.Test.YtcbjcpmkebbfaaaDoorStrA
import Derived.Test.YtcbjcpmkebbfaaaDoorSmIns
namespace Go.Proofs.YtcbjcpmkebbfaaaDoor
open Go.RowKit

theorem OT.lit (w : World) (base : Nat) (l : List ByteArray) (cs : Array Value) (hc : cs.toList = txsV l) (hb : base ≤ w.heap.size) (hl : l.length ≤ 1099511627776) : OT (w.alloc (.cells cs 9)) base (.slice (some ⟨w.heap.size, 0, none⟩) l.length l.length) l := by
  have hs : cs.size = l.length := by rw [← Array.length_toList, hc]; simp [txsV]
  have := World.ownsRow_lit (base := base) (e := 9) (size := 1) w cs l.length hb (by simp only [maxLen]; omega) (by omega)
  rw [hc] at this
  exact this
def fw (f : Fd) : ByteArray := (f.name ++ (⟨#[58]⟩ : ByteArray)) ++ f.typ
def stW (x : St) (k : Nat) : List ByteArray := [⟨#[115, 116, 114, 117, 99, 116]⟩, x.name] ++ (x.fields.take k).map fw
theorem stW_up {x : St} {k : Nat} {f : Fd} (h : x.fields[k]? = some f) : stW x (k + 1) = stW x k ++ [fw f] := by
  unfold stW; rw [map_up fw h, List.append_assoc]
theorem ba_assoc (a b c : ByteArray) : (a ++ b) ++ c = a ++ (b ++ c) := ByteArray.append_assoc
theorem fld_eq (s : ByteArray) (f : Fd) : spS s (fw f) = fldS s f := by
  unfold spS fw fldS
  simp only [ba_assoc]
theorem structS_eq (x : St) : joinB (stW x x.fields.length) = structS x := by
  unfold stW structS
  rw [List.take_of_length_le (Nat.le_refl _), List.cons_append, joinB_cons, List.cons_append, List.nil_append, List.foldl_cons, List.foldl_map]
  have e : spS (⟨#[115, 116, 114, 117, 99, 116]⟩ : ByteArray) x.name = structH x := rfl
  rw [e]
  congr 1
  funext s f
  exact fld_eq s f
/-- The texts of a struct are not too long. -/
def BdF (f : Fd) : Prop := f.name.size ≤ 1048576 ∧ f.typ.size ≤ 1048576
structure BdS (x : St) : Prop where
  n : x.name.size ≤ 1048576
  l : x.fields.length ≤ 2048
  f : ∀ f ∈ x.fields, BdF f
theorem stW_len (x : St) (k : Nat) (h : k ≤ x.fields.length) : (stW x k).length = k + 2 := by
  unfold stW; rw [List.length_append, List.length_map, List.length_take]; simp; omega
theorem stW_bd {x : St} (h : BdS x) (k : Nat) : ∀ y ∈ stW x k, y.size ≤ 1073741824 := by
  intro y hy
  unfold stW at hy
  rcases List.mem_append.1 hy with hy | hy
  · simp at hy
    rcases hy with rfl | rfl
    · exact show (6 : Nat) ≤ _ by omega
    · have := h.n; omega
  · obtain ⟨f, hf, rfl⟩ := List.mem_map.1 hy
    have h1 := h.f f (List.mem_of_mem_take hf)
    have h2 := h1.1
    have h3 := h1.2
    unfold fw
    simp only [ByteArray.size_append]
    have : (⟨#[58]⟩ : ByteArray).size = 1 := rfl
    omega
def WdRel (w : World) (base : Nat) (Q : Nat → List ByteArray) (m : Nat) (v i : Value) (wr : World) : Prop := ∃ k : Nat, k ≤ m ∧ i = .int .i64 k ∧ Hid (OT wr base v (Q k)) ∧ Hid (Below base w wr)

set_option maxRecDepth 20000 in
set_option maxHeartbeats 1000000 in
theorem structLine_any (E : TE) (w : World) (hM : TM E w) (hB : BdS E.x) : Calls Tryd.prog 29 #[E.v] w fun e w' => e = .returned (.string (structS E.x)) ∧ Below w.heap.size w w' := by
  have HB0 := Lib.hid (below_alloc w (.cells E.row 58))
  have HM := Lib.hid (hM.drop HB0.out)
  have HD := Lib.hid hB
  have a0 : (w.alloc (.cells E.row 58)).cell? ⟨w.heap.size, 0, none⟩ = some (.string E.x.name) := cell_new w E.row 58 0
  have a1 : (w.alloc (.cells E.row 58)).cell? ⟨w.heap.size, 1, none⟩ = some (.slice E.fA E.x.fields.length E.fc) := cell_new w E.row 58 1
  have HSZ : Hid ((w.alloc (.cells E.row 58)).heap.size = w.heap.size + 1) := by show _ = _; simp
  clear hM hB
  rw [← structS_eq]
  have HST := Lib.hid (stW_len E.x)
  have e1 := keepB a1 (below_alloc (w.alloc (.cells E.row 58)) (.cells #[.string ⟨#[115, 116, 114, 117, 99, 116]⟩, .string E.x.name] 9))
  have HO := Lib.hid (OT.lit (w.alloc (.cells E.row 58)) (w.heap.size + 1) (stW E.x 0) #[.string ⟨#[115, 116, 114, 117, 99, 116]⟩, .string E.x.name] (by simp [stW, txsV]) (Nat.le_of_eq HSZ.out.symm) (by rw [HST.out 0 (Nat.zero_le _)]; omega))
  rw [HST.out 0 (Nat.zero_le _), HSZ.out] at HO
  have HB1 := Lib.hid (below_alloc (w.alloc (.cells E.row 58)) (.cells #[.string ⟨#[115, 116, 114, 117, 99, 116]⟩, .string E.x.name] 9))
  rw [HSZ.out] at HB1
  unfold TE.v
  go_enter Tryd.func29, Tryd.ntmps29
  go_wp2_with fail
  generalize w.alloc (.cells E.row 58) = u0 at *
  go_loopw [3, 12] (fun v i wr => WdRel u0 (w.heap.size + 1) (stW E.x) E.x.fields.length v i wr) (fun _ i _ => E.x.fields.length - (intOf i).toNat)
  case atStart => exact ⟨0, Nat.zero_le _, rfl, HO, HB1⟩
  case round =>
    obtain ⟨k, hk, rfl, HK, HBR⟩ := hrel
    by_cases hlt : k < E.x.fields.length
    · have hfl := HM.out.fl
      obtain ⟨g, o, f, cs, hA, hf, ⟨rfl, f1, f2⟩, hcs⟩ := two_at (HM.out.F.below kp_fd HBR.out (Nat.le_of_eq HSZ.out)) hlt
      have x0 := hcs 0 _ rfl
      have x1 := hcs 1 _ rfl
      simp only [Nat.add_zero] at x0
      have HF := Lib.hid hf
      have HA := Lib.hid hA
      obtain ⟨fn, ft⟩ := f
      have hd := HD.out.f _ (List.mem_of_getElem? hf)
      have hd1 : fn.size ≤ 1048576 := hd.1
      have hd2 : ft.size ≤ 1048576 := hd.2
      rw [hA]
      clear hcs hf hA hd f1 f2
      have hbr := below_alloc wr (.cells #[.string fn, .string ft] 62)
      have y0 : (wr.alloc (.cells #[.string fn, .string ft] 62)).cell? ⟨wr.heap.size, 0, none⟩ = some (.string fn) := cell_new wr _ 62 0
      have y1 : (wr.alloc (.cells #[.string fn, .string ft] 62)).cell? ⟨wr.heap.size, 1, none⟩ = some (.string ft) := cell_new wr _ 62 1
      have HK2 := Lib.hid (HK.out.keep hbr)
      have HSB := Lib.hid (Nat.le_trans (Nat.le_of_eq HSZ.out.symm) HBR.out.size)
      have HB2 := Lib.hid (HBR.out.trans (hbr.mono HSB.out))
      have HUP := Lib.hid (stW_up HF.out)
      have HLN := Lib.hid (HST.out k (Nat.le_of_lt hlt))
      clear hbr
      have hz : (wr.alloc (.cells #[.string fn, .string ft] 62)).heap.size = wr.heap.size + 1 := by simp
      have HZ := Lib.hid hz
      clear hz
      go_wp2_with (at_builtin; refine Hid.out ?_)
      generalize wr.alloc (.cells #[.string fn, .string ft] 62) = u1 at *
      refine Lib.hid ?_
      rw [← HZ.out]
      refine app_txt rfl (.tmp 16) (.tmp 23) 31 rfl Tryd.underlying31 u1 (w.heap.size + 1) u3 (stW E.x k) ((fn ++ (⟨#[58]⟩ : ByteArray)) ++ ft) rfl HK2.out rfl (by rw [HLN.out]; have := HD.out.l; omega) (by rw [HZ.out]; have := HSB.out; omega) ?_
      intro v' w' hO' hS hsz how
      have HO3 := Lib.hid (show OT w' (w.heap.size + 1) v' (stW E.x (k + 1)) by rw [HUP.out]; exact hO')
      have HB3 := Lib.hid (HB2.out.trans (hS.below (B := w.heap.size + 1) (fun i hi => (HK2.out.lo hi).1) (by rw [HZ.out]; have := HSB.out; omega)))
      clear hO' hS hsz how
      go_wp2_with fail
      go_roundw
      case rel => exact ⟨k + 1, hlt, by go_num, HO3, HB3⟩
      case measure => simp [intOf]; omega
    · obtain rfl : k = E.x.fields.length := by omega
      have K := Lib.hid (line_own HK.out (by rw [HST.out _ (Nat.le_refl _)]; have := HD.out.l; omega) (stW_bd HD.out _))
      go_wp2_with fail
      refine K.out.mono ?_
      rintro e w5 ⟨rfl, b5⟩
      have HB5 := Lib.hid ((HB0.out.trans (HBR.out.mono (by omega))).trans (b5.mono (Nat.le_trans (by have := HSZ.out; omega) HBR.out.size)))
      clear b5 K
      go_wp2_with fail
      go_ret
      exact ⟨rfl, HB5.out⟩

end Go.Proofs.YtcbjcpmkebbfaaaDoor
