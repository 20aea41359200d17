/-
  CONTRACT: the reference's Line. Of what was there nothing has turned.
-/
import Derived.Test.YtcbjcpmkebbfaaaDoorIrWide
import Derived.Test.YtcbjcpmkebbfaaaDoorIrText
import Derived.Test.YtcbjcpmkebbfaaaDoorIrOps
import Derived.Deep.RegionHeld3
import Derived.Deep.CutRange
namespace Go.Proofs.YtcbjcpmkebbfaaaDoor
open Go.RowKit

def addV (s : ByteArray) (a : Int) : ByteArray := (s ++ ⟨#[32, 118]⟩) ++ num a
def addS (s t : ByteArray) : ByteArray := if t.size = 0 then s else (s ++ ⟨#[32]⟩) ++ t
def headS (place : Int) (x : Ins) : ByteArray := ((addS (addS ((((⟨#[118]⟩ : ByteArray) ++ num place) ++ ⟨#[32, 61, 32]⟩) ++ wordS x.op) x.typ) x.name) ++ ⟨#[32]⟩) ++ num x.n
def insS (place : Int) (x : Ins) : ByteArray := if wordS x.op = ⟨#[]⟩ then ⟨#[]⟩ else x.args.foldl addV (headS place x)
def lineS (f : Fn) (place : Int) : ByteArray := if place < 0 then ⟨#[]⟩ else match f.ins[place.toNat]? with
  | none => ⟨#[]⟩
  | some x => insS place x
theorem num_size (n : Int) (h : I64 n) : (num n).size ≤ 21 := by
  have := Lib.itoa_length_le n h.1 h.2
  show (Lib.itoa n).toArray.size ≤ 21
  rw [List.size_toArray]; omega

theorem cell_lt {w : World} {p : Addr} {v : Value} (h : w.cell? p = some v) : p.block < w.heap.size := by
  obtain ⟨b, o, s⟩ := p
  unfold World.cell? at h
  rcases Nat.lt_or_ge b w.heap.size with hb | hb
  · exact hb
  · have : w.heap[b]? = none := Array.getElem?_eq_none hb
    simp [this] at h
theorem keepB {w w' : World} {p : Addr} {v : Value} (h : w.cell? p = some v) (hb : Below w.heap.size w w') : w'.cell? p = some v := (hb.cell (cell_lt h)).trans h
theorem cell_new (w : World) (cs : Array Value) (t : TypeId) (k : Nat) : (w.alloc (.cells cs t)).cell? ⟨w.heap.size, k, none⟩ = cs[k]? := cell_of_row _ w.heap.size k cs t (0, 0) (heap_alloc_last w _)
theorem one_step {w w' w2 : World} {p : Addr} {v : Value} (h : Below w.heap.size w w' ∧ w'.cell? p = some v) (b : Below w'.heap.size w' w2) : Below w.heap.size w w2 ∧ w2.cell? p = some v := ⟨h.1.trans (b.mono h.1.size), keepB h.2 b⟩
theorem i64_of {k il : Nat} (h : k < il) (hl : il ≤ 140737488351232) : I64 k := ⟨by omega, by omega⟩
theorem word_size (op : Int) : (wordS op).size ≤ 6 := by
  have : ∀ l ∈ wordTab, l.length ≤ 6 := by decide
  unfold wordS wordL bs
  split
  · exact Nat.zero_le _
  · rw [List.getD_eq_getElem?_getD]
    cases h : wordTab[op.toNat]? with
    | none => exact Nat.zero_le _
    | some l =>
      have := this l (List.mem_of_getElem? h)
      show l.toArray.size ≤ 6
      rwa [List.size_toArray]
theorem refText_to (n : Int) (s : ByteArray) (h : num n = s) (hn : I64 n) (w : World) : Calls Tryd.prog 32 #[.int .i64 n] w fun e w' => e = .returned (.string s) ∧ Below w.heap.size w w' := by
  rw [← h]; exact refText_any n w hn.1 hn.2
theorem empty_toList {l : ByteArray} (h : l.size = 0) : l.toList.isEmpty = true := by
  rw [ByteArray.toList_eq, empty_nil h]; rfl
theorem fold_up {l : List Int} {k : Nat} {x : Int} (h : ByteArray) (hx : l[k]? = some x) : (l.take (k + 1)).foldl addV h = addV ((l.take k).foldl addV h) x := by
  obtain ⟨p, e⟩ := List.getElem?_eq_some_iff.1 hx
  rw [List.take_succ_eq_append_getElem p, List.foldl_append, e]; rfl
def VRel (w : World) (m : Nat) (l : List Int) (h : ByteArray) (i s : Value) (wr : World) : Prop := ∃ k : Nat, k ≤ m ∧ i = .int .i64 k ∧ ∃ q : ByteArray, s = .string q ∧ Hid (q = (l.take k).foldl addV h ∧ q.size ≤ h.size + 23 * k) ∧ Below w.heap.size w wr
theorem adds_size (a b : ByteArray) : (addS a b).size ≤ a.size + b.size + 1 := by
  unfold addS
  split
  · omega
  · simp only [ByteArray.size_append]; have : (⟨#[32]⟩ : ByteArray).size = 1 := rfl; omega
set_option maxHeartbeats 1000000 in
theorem refLine_any (E : FE) (n : Int) (r : ByteArray) (w : World) (hM : FM E w) (hn : I64 n) (hr : Hid (lineS E.f n = r)) :
    Calls Tryd.prog 26 #[E.v, .int .i64 n] w fun e w' => e = .returned (.string r) ∧ Below w.heap.size w w' := by
  obtain ⟨il, hil⟩ : ∃ m, E.f.ins.length = m := ⟨_, rfl⟩
  have HB := Lib.hid (below_alloc w (.cells E.row 40))
  have HM := Lib.hid (hM.below HB.out (Nat.le_refl _))
  have HV := Lib.hid (FV.new E w 40)
  have c4 : (w.alloc (.cells E.row 40)).cell? ⟨w.heap.size, 4, none⟩ = some (.slice E.iA E.f.ins.length E.ic) := HV.out.cell 4 _ rfl
  have hie := hM.ile
  have hib := hM.il
  rw [hil] at c4 hie hib
  have Hil := Lib.hid hil
  clear hM hil
  unfold FE.v
  by_cases h0 : n < 0
  · obtain rfl : r = ⟨#[]⟩ := hr.out.symm.trans (if_pos h0)
    go_enter Tryd.func26, Tryd.ntmps26
    go_wp2_with fail
    go_ret
    exact ⟨rfl, HB.out⟩
  · by_cases h1 : (il : Int) ≤ n
    · obtain rfl : r = ⟨#[]⟩ := hr.out.symm.trans (by unfold lineS; rw [if_neg h0, List.getElem?_eq_none (by have := Hil.out; omega)])
      go_enter Tryd.func26, Tryd.ntmps26
      go_wp2_with fail
      go_ret
      exact ⟨rfl, HB.out⟩
    · obtain ⟨k, rfl⟩ : ∃ k : Nat, n = k := ⟨n.toNat, by omega⟩
      obtain ⟨x, hx⟩ : ∃ x, E.f.ins[k]? = some x := ⟨_, List.getElem?_eq_getElem (by have := Hil.out; omega)⟩
      have HR : Hid (insS k x = r) := by
        have := hr.out
        unfold lineS at this
        rw [if_neg h0, Int.toNat_natCast, hx] at this
        exact this
      obtain ⟨g, o, hA, hg, hcs⟩ := HM.out.I (by have := Hil.out; omega)
      obtain ⟨cs, ⟨v, rfl, i0, i3, i1, i4, ⟨lA, lc, rfl, l1, l2, HL⟩⟩, h0'⟩ := hcs k x hx
      have d0 := h0' 0 _ rfl
      have d1 := h0' 1 _ rfl
      have d2 := h0' 2 _ rfl
      have d3 := h0' 3 _ rfl
      have d4 := h0' 4 _ rfl
      rw [hA] at c4
      simp only [Nat.add_zero] at d0
      obtain ⟨j, hj⟩ : ∃ j, x.args.length = j := ⟨_, rfl⟩
      have HJ := Lib.hid hj
      rw [hj] at d2 l1 l2
      have HLL := Lib.hid HL
      clear hcs hx h0' HL hj hr hA HM
      obtain ⟨op, ty, args, m, nm⟩ := x
      simp only at d0 d1 d2 d3 d4 i0 i1 i3 i4
      have hk : k < il := by omega
      by_cases hw : wordS op = ⟨#[]⟩
      · obtain rfl : r = ⟨#[]⟩ := HR.out.symm.trans (if_pos hw)
        go_enter Tryd.func26, Tryd.ntmps26
        go_wp2_with (go_at_call 9; refine (refWord_any op _).mono ?_; rintro e w2 ⟨rfl, b2⟩; rw [hw])
        go_ret
        exact ⟨rfl, HB.out.trans (b2.mono HB.out.size)⟩
      · obtain ⟨wd, hwd⟩ : ∃ s, wordS op = s := ⟨_, rfl⟩
        rw [hwd] at hw
        have hw2 : wd.toList.isEmpty = false := nonempty_toList (fun h => hw (Go.WideShapes.bytes_inj (empty_nil h)))
        go_enter Tryd.func26, Tryd.ntmps26
        go_wp2_with fail
        generalize w.alloc (.cells E.row 40) = w1 at *
        refine (refWord_any op _).mono ?_
        rintro e w2 ⟨rfl, b2⟩
        rw [hwd]
        have B2 := Lib.hid (HB.out.trans (b2.mono HB.out.size))
        have c4 := keepB c4 b2
        have d0 := keepB d0 b2
        have d1 := keepB d1 b2
        have d2 := keepB d2 b2
        have d3 := keepB d3 b2
        have d4 := keepB d4 b2
        have HLL := Lib.hid (HLL.out.below kp_int b2 (Nat.le_refl _))
        clear b2
        obtain ⟨vb, hvb⟩ : ∃ b, w2.heap.size = b := ⟨_, rfl⟩
        have hws : wd.size ≤ 6 := by rw [← hwd]; exact word_size op
        have hts := num_size k (i64_of hk hib)
        have htx := refText_to k (num k) rfl (i64_of hk hib)
        have HTX := Lib.hid htx
        obtain ⟨tx, htx2⟩ : ∃ t, num k = t := ⟨_, rfl⟩
        rw [htx2] at hts HTX
        clear htx
        go_wp2_with fail
        have B3 := Lib.hid (B2.out.alloc B2.out.size (.cells #[.int .i64 op, .string ty, .slice lA j lc, .int .i64 m, .string nm] 47))
        have b3 := below_alloc w2 (.cells #[.int .i64 op, .string ty, .slice lA j lc, .int .i64 m, .string nm] 47)
        have HLL := Lib.hid (HLL.out.below kp_int b3 (Nat.le_refl _))
        have e0 : (w2.alloc (.cells #[.int .i64 op, .string ty, .slice lA j lc, .int .i64 m, .string nm] 47)).cell? ⟨w2.heap.size, 0, none⟩ = some (.int .i64 op) := cell_new w2 _ 47 0
        have e1 : (w2.alloc (.cells #[.int .i64 op, .string ty, .slice lA j lc, .int .i64 m, .string nm] 47)).cell? ⟨w2.heap.size, 1, none⟩ = some (.string ty) := cell_new w2 _ 47 1
        have e2 : (w2.alloc (.cells #[.int .i64 op, .string ty, .slice lA j lc, .int .i64 m, .string nm] 47)).cell? ⟨w2.heap.size, 2, none⟩ = some (.slice lA j lc) := cell_new w2 _ 47 2
        have e3 : (w2.alloc (.cells #[.int .i64 op, .string ty, .slice lA j lc, .int .i64 m, .string nm] 47)).cell? ⟨w2.heap.size, 3, none⟩ = some (.int .i64 m) := cell_new w2 _ 47 3
        have e4 : (w2.alloc (.cells #[.int .i64 op, .string ty, .slice lA j lc, .int .i64 m, .string nm] 47)).cell? ⟨w2.heap.size, 4, none⟩ = some (.string nm) := cell_new w2 _ 47 4
        generalize w2.alloc (.cells #[.int .i64 op, .string ty, .slice lA j lc, .int .i64 m, .string nm] 47) = w3 at *
        rw [hvb] at e0 e1 e2 e3 e4
        clear c4 d0 d1 d2 d3 d4 b3
        go_cut [6] from 32 (fun s wc => s = .string (((((⟨#[118]⟩ : ByteArray) ++ tx) ++ ⟨#[32, 61, 32]⟩) ++ wd)) ∧ Below w3.heap.size w3 wc)
        case first =>
          have hA : ¬ 9223372036854775807 < 1 + tx.size := by omega
          have hB : ¬ 9223372036854775807 < 1 + tx.size + 3 := by omega
          have hC : ¬ 9223372036854775807 < 1 + tx.size + 3 + wd.size := by omega
          go_region_held3 (fun w' => Below w3.heap.size w3 w' ∧ w'.cell? ⟨vb, 0, none⟩ = some (.int .i64 op)) (first | exact ⟨(Below.refl _ _).drew, e0⟩ | exact HK.out) (first | (go_at_call 32; have h0 := ‹Below w3.heap.size w3 _ ∧ _›; refine (HTX.out _).mono ?_; rintro e w4 ⟨rfl, b4⟩; have HK := Lib.hid (one_step h0 b4)) | (go_at_call 9; have h0 := ‹Below w3.heap.size w3 _ ∧ _›; refine (refWord_any op _).mono ?_; rintro e w4 ⟨rfl, b4⟩; rw [hwd]; have HK := Lib.hid (one_step h0 b4)))
          all_goals (go_wp2_with fail; go_meet; case rel => exact ⟨rfl, HK.out.1⟩)
        case rest =>
        obtain ⟨rfl, hb4⟩ := hcut
        have e1 := keepB e1 (hb4.mono (Nat.le_refl _))
        have e2 := keepB e2 hb4
        have e3 := keepB e3 hb4
        have e4 := keepB e4 hb4
        have HLL := Lib.hid (HLL.out.below kp_int hb4 (Nat.le_refl _))
        have B4 := Lib.hid (B3.out.trans (hb4.mono B3.out.size))
        clear hb4 e0 B3 B2 HB
        obtain ⟨h1, hh1⟩ : ∃ s, (((⟨#[118]⟩ : ByteArray) ++ tx) ++ ⟨#[32, 61, 32]⟩) ++ wd = s := ⟨_, rfl⟩
        have hs1 : h1.size ≤ 100 := by rw [← hh1]; simp only [ByteArray.size_append]; show _ + _ + _ + _ ≤ _; have : (⟨#[118]⟩ : ByteArray).size = 1 := rfl; have : (⟨#[32, 61, 32]⟩ : ByteArray).size = 3 := rfl; omega
        rw [hh1]
        go_upto_if 42 with (fail)
        go_cut [6] from 32 (fun s we => s = .string (addS h1 ty) ∧ we = wc)
        case first =>
          by_cases ht : ty.size = 0
          · rw [empty_toList ht]
            have ha : addS h1 ty = h1 := if_pos ht
            go_wp2_with fail
            go_meet
            case rel => exact ⟨by rw [ha], rfl⟩
          · rw [nonempty_toList ht]
            have ha : addS h1 ty = (h1 ++ ⟨#[32]⟩) ++ ty := if_neg ht
            go_wp2_with fail
            go_meet
            case rel => exact ⟨by rw [ha], rfl⟩
        case rest =>
        obtain ⟨rfl, rfl⟩ := hcut
        obtain ⟨h2, hh2⟩ : ∃ s, addS h1 ty = s := ⟨_, rfl⟩
        have hs2 : h2.size ≤ 140737488351400 := by rw [← hh2]; have := adds_size h1 ty; omega
        rw [hh2]
        go_upto_if 50 with (fail)
        go_cut [6] from 32 (fun s we => s = .string (addS h2 nm) ∧ we = wc)
        case first =>
          by_cases ht : nm.size = 0
          · rw [empty_toList ht]
            have ha : addS h2 nm = h2 := if_pos ht
            go_wp2_with fail
            go_meet
            case rel => exact ⟨by rw [ha], rfl⟩
          · rw [nonempty_toList ht]
            have ha : addS h2 nm = (h2 ++ ⟨#[32]⟩) ++ nm := if_neg ht
            go_wp2_with fail
            go_meet
            case rel => exact ⟨by rw [ha], rfl⟩
        case rest =>
        obtain ⟨rfl, rfl⟩ := hcut
        obtain ⟨h3, hh3⟩ : ∃ s, addS h2 nm = s := ⟨_, rfl⟩
        have hs3 : h3.size ≤ 281474976710700 := by rw [← hh3]; have := adds_size h2 nm; omega
        rw [hh3]
        go_wp2_with fail
        have hms := num_size m i3
        have HMX := Lib.hid (refText_to m (num m) rfl i3)
        obtain ⟨mx, hmx⟩ : ∃ t, num m = t := ⟨_, rfl⟩
        have HR2 : Hid (args.foldl addV ((h3 ++ ⟨#[32]⟩) ++ mx) = r) := by
          have h := HR.out
          unfold insS headS at h
          rw [if_neg (by rw [hwd]; exact hw), hwd, htx2, hh1, hh2, hh3, hmx] at h
          exact h
        rw [hmx] at hms HMX
        clear HR hwd htx2 hh1 hh2 hh3 hmx e1 e4 hw2 hs1 hs2 hws hts
        refine (HMX.out _).mono ?_
        rintro e w5 ⟨rfl, b5⟩
        have e2 := keepB e2 b5
        have HLL := Lib.hid (HLL.out.below kp_int b5 (Nat.le_refl _))
        have B5 := Lib.hid (B4.out.trans (b5.mono B4.out.size))
        clear b5 e3 B4
        obtain ⟨h4, hh4⟩ : ∃ s, (h3 ++ ⟨#[32]⟩) ++ mx = s := ⟨_, rfl⟩
        have hs4 : h4.size ≤ 281474976711000 := by rw [← hh4]; simp only [ByteArray.size_append]; have : (⟨#[32]⟩ : ByteArray).size = 1 := rfl; omega
        rw [hh4] at HR2
        have HH := Lib.hid hh4
        go_wp2_with fail
        clear hh4 hms
        go_loopw [7, 6] (fun i s wr => VRel w5 j args h4 i s wr) (fun i _ _ => j - (intOf i).toNat)
        case atStart => exact ⟨0, Nat.zero_le _, rfl, h4, rfl, ⟨rfl, Nat.le_refl _⟩, Below.refl _ _⟩
        case round =>
          obtain ⟨p, hp, rfl, q, rfl, HQ, hb⟩ := hrel
          have f2 := keepB e2 hb
          have hqs : q.size ≤ 3518437208883200 := by have := HQ.out.2; omega
          by_cases hlt : p < j
          · obtain ⟨g2, o2, hA2, hg2, hcs2⟩ := (HLL.out.below kp_int hb (Nat.le_refl _)) (by have := HJ.out; omega)
            obtain ⟨y, hy⟩ : ∃ y, args[p]? = some y := ⟨_, List.getElem?_eq_getElem (by have := HJ.out; omega)⟩
            obtain ⟨cs2, ⟨rfl, iy⟩, h2⟩ := hcs2 p y hy
            have y0 := h2 0 _ rfl
            rw [hA2] at f2
            have hst := fold_up h4 hy
            rw [← HQ.out.1] at hst
            have hys := num_size y iy
            have HYT := Lib.hid (refText_to y (num y) rfl iy)
            have HST : Hid ((args.take (p + 1)).foldl addV h4 = (q ++ ⟨#[32, 118]⟩) ++ num y) := hst
            obtain ⟨t, ht⟩ : ∃ t, num y = t := ⟨_, rfl⟩
            rw [ht] at hys HYT HST
            have HB6 := Lib.hid hb
            have HQ2 := HQ.out.2
            have HQS := Lib.hid HQ2
            clear hcs2 h2 hy hst ht hA2 hb HQ2 HQ
            simp only [Nat.mul_one, Nat.add_zero] at y0
            go_wp2_with fail
            refine (HYT.out _).mono ?_
            rintro e w6 ⟨rfl, b6⟩
            have B6 := Lib.hid (HB6.out.trans (b6.mono HB6.out.size))
            clear b6
            go_wp2_with fail
            go_roundw
            case rel => exact ⟨p + 1, by omega, by go_num, _, rfl, ⟨HST.out.symm, by simp only [ByteArray.size_append]; have : (⟨#[32, 118]⟩ : ByteArray).size = 2 := rfl; have := HQS.out; omega⟩, B6.out⟩
            case measure => simp [intOf]; omega
          · obtain rfl : q = r := by
              have h := HQ.out.1
              rw [List.take_of_length_le (by have := HJ.out; omega), HR2.out] at h
              exact h
            have B6 := Lib.hid (B5.out.trans (hb.mono B5.out.size))
            clear hb
            go_wp2_with fail
            go_ret
            exact ⟨rfl, B6.out⟩

end Go.Proofs.YtcbjcpmkebbfaaaDoor
