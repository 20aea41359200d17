/-
  CONTRACTS: ir's cloneEach: rows of instructions, blocks, structs in new memory. Of what was there nothing has turned.
-/
import Derived.Test.YtcbjcpmkebbfaaaDoorClIns
namespace Go.Proofs.YtcbjcpmkebbfaaaDoor
open Go.RowKit

def setAll (cur : Array Value) : Nat → List Value → Array Value
  | _, [] => cur
  | o, v :: r => setAll (cur.setIfInBounds o v) (o + 1) r
theorem setAll_size : ∀ (vs : List Value) (cur : Array Value) (o : Nat), (setAll cur o vs).size = cur.size
  | [], _, _ => rfl
  | v :: r, cur, o => by rw [setAll, setAll_size r]; simp
theorem setAll_out : ∀ (vs : List Value) (cur : Array Value) (o j : Nat), (j < o ∨ o + vs.length ≤ j) → (setAll cur o vs)[j]? = cur[j]?
  | [], _, _, _, _ => rfl
  | v :: r, cur, o, j, h => by
    rw [setAll, setAll_out r _ _ _ (by simp at h; omega)]
    rw [Array.getElem?_setIfInBounds]
    rw [if_neg (by simp at h; omega)]
theorem setAll_in : ∀ (vs : List Value) (cur : Array Value) (o : Nat), o + vs.length ≤ cur.size → Sg (setAll cur o vs) o vs
  | [], _, _, _ => fun k v hv => by simp at hv
  | u :: r, cur, o, h => fun k v hv => by
    rw [setAll]
    cases k with
    | zero =>
      obtain rfl := Option.some.inj hv
      rw [setAll_out r _ _ _ (.inl (by omega)), Array.getElem?_setIfInBounds, if_pos (by simp)]
      simp at h ⊢
      omega
    | succ k =>
      have := setAll_in r (cur.setIfInBounds o u) (o + 1) (by simp at h ⊢; omega) k v (by simpa using hv)
      rwa [show o + (k + 1) = o + 1 + k by omega]
theorem setCells_heap : ∀ (vs : List Value) (w : World) (g o : Nat) (cur : Array Value) (t : TypeId), w.heap[g]? = some (.cells cur t (0, 0)) → (w.setCells g o vs).heap[g]? = some (.cells (setAll cur o vs) t (0, 0))
  | [], _, _, _, _, _, h => h
  | v :: r, w, g, o, cur, t, h => setCells_heap r _ g (o + 1) _ t (heap_setCell_same w g o cur t v h)
theorem setCells_other : ∀ (vs : List Value) (w : World) (g o k : Nat), k ≠ g → (w.setCells g o vs).heap[k]? = w.heap[k]?
  | [], _, _, _, _, _ => rfl
  | v :: r, w, g, o, k, h => (setCells_other r _ g (o + 1) k h).trans (heap_setCell_other w ⟨g, o, none⟩ k v h)
theorem setCells_size : ∀ (vs : List Value) (w : World) (g o : Nat), (w.setCells g o vs).heap.size = w.heap.size
  | [], _, _, _ => rfl
  | v :: r, w, g, o => (setCells_size r _ g (o + 1)).trans (by simp [World.setCell])
theorem setCells_below : ∀ (vs : List Value) {w0 w : World} {B g : Nat} (o : Nat), Below B w0 w → B ≤ g → Below B w0 (w.setCells g o vs)
  | [], _, _, _, _, _, h, _ => h
  | v :: r, _, _, _, g, o, h, hg => setCells_below r (o + 1) (h.setCell (p := ⟨g, o, none⟩) hg v) hg

/-- A row whose first k elements are clones. -/
def Half {α : Type} (c : Nat) (R : Rdr α) (O : ORdr α) (w : World) (e : TypeId) (l : List α) (k : Nat) (wr : World) : Prop :=
  0 < l.length → ∃ (cur : Array Value) (b : Nat → Nat), wr.heap[w.heap.size]? = some (.cells cur e (0, 0)) ∧ cur.size = l.length * c ∧ w.heap.size < b 0 ∧ (∀ i, i < k → b i ≤ b (i + 1)) ∧ b k = wr.heap.size ∧
    (∀ i x, i < k → l[i]? = some x → ∃ cs, O wr (b i) (b (i + 1)) cs x ∧ Sg cur (i * c) cs) ∧ (∀ i x, k ≤ i → l[i]? = some x → ∃ cs, R w cs x ∧ Sg cur (i * c) cs)
theorem half_start {α : Type} {c : Nat} {R : Rdr α} {O : ORdr α} {w w' : World} {e : TypeId} {l : List α} {FL : List Value} (hf : Flat c R w l FL) (hg : 0 < l.length → w'.heap[w.heap.size]? = some (.cells FL.toArray e (0, 0))) : Half c R O w e l 0 w' := fun h0 => by
  have := hg h0
  exact ⟨FL.toArray, fun _ => w'.heap.size, this, by rw [List.size_toArray]; exact hf.1, (Array.getElem?_eq_some_iff.1 this).1, fun i h => by omega, rfl, fun i x h => by omega, fun i x _ hx => hf.2.2 i x hx⟩
theorem half_step {α : Type} {c : Nat} {R : Rdr α} {O : ORdr α} (hO : Kpo O) {w wr w2 : World} {e : TypeId} {l : List α} {k : Nat} {x : α} {cs : List Value} (h : Half c R O w e l k wr) (hx : l[k]? = some x) (hb : Below wr.heap.size wr w2) (ho : O w2 wr.heap.size w2.heap.size cs x) (hc : cs.length = c) :
    Half c R O w e l (k + 1) (w2.setCells w.heap.size (k * c) cs) := fun h0 => by
  obtain ⟨cur, b, hg, hs, h1, h2, h3, h4, h5⟩ := h h0
  have hk := (List.getElem?_eq_some_iff.1 hx).1
  have m0 := mono_upto h2 (Nat.zero_le k) (Nat.le_refl _)
  have hgl : w.heap.size < wr.heap.size := by omega
  have hg2 : w2.heap[w.heap.size]? = some (.cells cur e (0, 0)) := (hb.block _ hgl).trans hg
  have hfit : k * c + cs.length ≤ cur.size := by
    rw [hc, hs, ← Nat.succ_mul]; exact Nat.mul_le_mul_right c hk
  have hbt : ∀ lo hi, w.heap.size < lo → Bt lo hi w2 (w2.setCells w.heap.size (k * c) cs) := fun lo hi hl => ⟨by rw [setCells_size]; exact Nat.le_refl _, fun j q1 q2 => setCells_other cs w2 _ _ j (by omega)⟩
  refine ⟨setAll cur (k * c) cs, fun i => if i ≤ k then b i else w2.heap.size, setCells_heap cs w2 _ _ cur e hg2, by rw [setAll_size]; exact hs, by simpa using h1, fun i hi => ?_, by simp [setCells_size]; intro q; omega, fun i y hi hy => ?_, fun i y hi hy => ?_⟩
  · by_cases q : i < k
    · simp only [show i ≤ k by omega, show i + 1 ≤ k by omega, if_true]; exact h2 i q
    · obtain rfl : i = k := by omega
      simp only [Nat.le_refl, if_true, show ¬ i + 1 ≤ i by omega, if_false]
      rw [h3]; exact hb.size
  · by_cases q : i < k
    · simp only [show i ≤ k by omega, show i + 1 ≤ k by omega, if_true]
      obtain ⟨ds, r, s⟩ := h4 i y q hy
      have m1 := mono_upto h2 (Nat.zero_le i) (by omega)
      have m2 := mono_upto h2 (show i + 1 ≤ k from q) (Nat.le_refl _)
      refine ⟨ds, hO.on (hO.on r ⟨hb.size, fun j q1 q2 => hb.block j (by omega)⟩) (hbt _ _ (by omega)), fun j v hv => ?_⟩
      rw [setAll_out]
      · exact s j v hv
      · left
        have e1 := (hO.len r ho).trans hc
        have e2 := (List.getElem?_eq_some_iff.1 hv).1
        have : (i + 1) * c ≤ k * c := Nat.mul_le_mul_right c q
        rw [Nat.succ_mul] at this
        omega
    · obtain rfl : i = k := by omega
      obtain rfl := Option.some.inj (hx.symm.trans hy)
      simp only [Nat.le_refl, if_true, show ¬ i + 1 ≤ i by omega, if_false]
      rw [h3]
      exact ⟨cs, hO.on ho (hbt _ _ hgl), setAll_in cs cur (i * c) hfit⟩
  · obtain ⟨ds, r, s⟩ := h5 i y (by omega) hy
    refine ⟨ds, r, fun j v hv => ?_⟩
    rw [setAll_out]
    · exact s j v hv
    · right
      have : (k + 1) * c ≤ i * c := Nat.mul_le_mul_right c hi
      rw [Nat.succ_mul] at this
      omega
theorem half_end {α : Type} {c : Nat} {R : Rdr α} {O : ORdr α} {w wr : World} {e : TypeId} {l : List α} {A : Option Addr} (h : Half c R O w e l l.length wr) (hA : 0 < l.length → A = some ⟨w.heap.size, 0, none⟩) (hl : l.length ≤ 1099511627776) : oR c O wr w.heap.size wr.heap.size (.slice A l.length l.length) l :=
  ⟨A, _, rfl, Nat.le_refl _, by omega, fun h0 => by
    obtain ⟨cur, b, hg, -, h1, h2, h3, h4, -⟩ := h h0
    exact ⟨w.heap.size, e, cur, b, hA h0, hg, Nat.le_refl _, h1, h2, Nat.le_of_eq h3, fun i x hx => h4 i x (List.getElem?_eq_some_iff.1 hx).1 hx⟩⟩
/-- What an element's cells are in a row that is half done. -/
theorem half_at {α : Type} {c : Nat} {R : Rdr α} {O : ORdr α} {w wr : World} {e : TypeId} {l : List α} {k : Nat} {x : α} (h : Half c R O w e l k wr) (hx : l[k]? = some x) : ∃ cs, R w cs x ∧ ∀ j v, cs[j]? = some v → wr.cell? ⟨w.heap.size, k * c + j, none⟩ = some v := by
  obtain ⟨cur, b, hg, hs, h1, h2, h3, h4, h5⟩ := h (Nat.lt_of_le_of_lt (Nat.zero_le _) (List.getElem?_eq_some_iff.1 hx).1)
  obtain ⟨cs, r, s⟩ := h5 k x (Nat.le_refl _) hx
  exact ⟨cs, r, fun j v hv => (cell_of_row wr _ _ cur e _ hg).trans (s j v hv)⟩
theorem half_free {α : Type} {c : Nat} {R : Rdr α} {O : ORdr α} {w wr : World} {e : TypeId} {l : List α} {k : Nat} {x : α} (h : Half c R O w e l k wr) (hx : l[k]? = some x) : w.heap.size < wr.heap.size ∧ ∀ j, wr.frozen? ⟨w.heap.size, j, none⟩ = false := by
  obtain ⟨cur, b, hg, hs, h1, h2, h3, h4, h5⟩ := h (Nat.lt_of_le_of_lt (Nat.zero_le _) (List.getElem?_eq_some_iff.1 hx).1)
  exact ⟨(Array.getElem?_eq_some_iff.1 hg).1, fun j => frz_of hg⟩
def CRel {α : Type} (c : Nat) (R : Rdr α) (O : ORdr α) (w : World) (e : TypeId) (l : List α) (i : Value) (wr : World) : Prop := ∃ k : Nat, k ≤ l.length ∧ i = .int .i64 k ∧ Hid (Half c R O w e l k wr) ∧ Hid (Below w.heap.size w wr)

set_option maxRecDepth 20000 in
set_option maxHeartbeats 1000000 in
theorem eachIns (A : Option Addr) (c0 : Nat) (l : List Ins) (w : World) (hR : SL 5 insR w A l) (hl : l.length ≤ 1099511627776) (hsm : ∀ x ∈ l, x.args.length ≤ 1099511627776) :
    Calls Tryd.prog 65 #[.slice A l.length c0, .func (.func 66) #[] #[]] w (RwQ 5 insO l w) := by
  obtain ⟨FL, hf, hs⟩ := flat_of cz_ins hR
  have HF := Lib.hid hf
  have HS := Lib.hid hs
  have HSM := Lib.hid hsm
  clear hR hf hs hsm
  go_enter Tryd.func65, Tryd.ntmps65
  go_wp2_with fail
  refine (rowIns A c0 l.length FL w hl HF.out.1 HF.out.2.1 HS.out).mono ?_
  rintro e w1 ⟨B, rfl, hg, b1⟩
  have HA := Lib.hid (fun h => (hg h).1)
  have HH := Lib.hid (half_start (O := insO) (e := 47) HF.out (fun h => (hg h).2))
  have HB := Lib.hid b1
  clear hg b1
  go_wp2_with fail
  go_loopw [11] (fun i wr => CRel 5 insR insO w 47 l i wr) (fun i _ => l.length - (intOf i).toNat)
  case atStart => exact ⟨0, Nat.zero_le _, rfl, HH, HB⟩
  case round =>
    obtain ⟨k, hk, rfl, HK, HBR⟩ := hrel
    by_cases hlt : k < l.length
    · obtain ⟨x, hx⟩ : ∃ x, l[k]? = some x := ⟨_, List.getElem?_eq_getElem hlt⟩
      obtain rfl := HA.out (Nat.lt_of_le_of_lt (Nat.zero_le _) hlt)
      obtain ⟨cs, hcr, hc⟩ := half_at HK.out hx
      obtain ⟨E, rfl, rfl, hM⟩ := ie_of hcr
      obtain ⟨hgl, hfz⟩ := half_free HK.out hx
      have x0 := hc 0 _ rfl
      have x1 := hc 1 _ rfl
      have x2 := hc 2 _ rfl
      have x3 := hc 3 _ rfl
      have x4 := hc 4 _ rfl
      have HX := Lib.hid hx
      have HM := Lib.hid (hM.drop HBR.out)
      have HE := Lib.hid (HSM.out _ (List.mem_of_getElem? hx))
      clear hc hcr hM hx
      simp only [Nat.add_zero] at x0
      go_wp2_with fail
      refine (clIns_any E wr HM.out HE.out).mono ?_
      rintro e w2 ⟨ds, rfl, hO, b2⟩
      have HO := Lib.hid hO
      obtain ⟨v, rfl, -, -, -, -, ⟨D, q, rfl, -, -, -⟩⟩ := hO
      have x0 := keepB x0 b2
      have x1 := keepB x1 b2
      have x2 := keepB x2 b2
      have x3 := keepB x3 b2
      have x4 := keepB x4 b2
      have hfz2 : ∀ j, w2.frozen? ⟨w.heap.size, j, none⟩ = false := fun j => (b2.frozen (p := ⟨w.heap.size, j, none⟩) hgl).trans (hfz j)
      have HB2 := Lib.hid b2
      clear hfz b2 hgl
      go_wp2_with fail
      have HN := Lib.hid (half_step kpo_ins HK.out HX.out HB2.out HO.out rfl)
      have HB3 := Lib.hid (setCells_below [.int .i64 E.x.op, .string E.x.typ, .slice D E.x.args.length q, .int .i64 E.x.n, .string E.x.name] (k * 5) (HBR.out.trans (HB2.out.mono HBR.out.size)) (Nat.le_refl _))
      go_roundw
      case rel => exact ⟨k + 1, hlt, by go_num, HN, HB3⟩
      case measure => simp [intOf]; omega
    · obtain rfl : k = l.length := by omega
      go_wp2_with fail
      go_ret
      exact ⟨_, rfl, half_end HK.out HA.out hl, HBR.out⟩

set_option maxRecDepth 20000 in
set_option maxHeartbeats 1000000 in
theorem eachBlk (A : Option Addr) (c0 : Nat) (l : List Blk) (w : World) (hR : SL 5 blkR w A l) (hl : l.length ≤ 1099511627776) (hsm : ∀ x ∈ l, x.list.length ≤ 1099511627776) :
    Calls Tryd.prog 67 #[.slice A l.length c0, .func (.func 68) #[] #[]] w (RwQ 5 blkO l w) := by
  obtain ⟨FL, hf, hs⟩ := flat_of cz_blk hR
  have HF := Lib.hid hf
  have HS := Lib.hid hs
  have HSM := Lib.hid hsm
  clear hR hf hs hsm
  go_enter Tryd.func67, Tryd.ntmps67
  go_wp2_with fail
  refine (rowBlk A c0 l.length FL w hl HF.out.1 HF.out.2.1 HS.out).mono ?_
  rintro e w1 ⟨B, rfl, hg, b1⟩
  have HA := Lib.hid (fun h => (hg h).1)
  have HH := Lib.hid (half_start (O := blkO) (e := 53) HF.out (fun h => (hg h).2))
  have HB := Lib.hid b1
  clear hg b1
  go_wp2_with fail
  go_loopw [11] (fun i wr => CRel 5 blkR blkO w 53 l i wr) (fun i _ => l.length - (intOf i).toNat)
  case atStart => exact ⟨0, Nat.zero_le _, rfl, HH, HB⟩
  case round =>
    obtain ⟨k, hk, rfl, HK, HBR⟩ := hrel
    by_cases hlt : k < l.length
    · obtain ⟨x, hx⟩ : ∃ x, l[k]? = some x := ⟨_, List.getElem?_eq_getElem hlt⟩
      obtain rfl := HA.out (Nat.lt_of_le_of_lt (Nat.zero_le _) hlt)
      obtain ⟨cs, hcr, hc⟩ := half_at HK.out hx
      obtain ⟨E, rfl, rfl, hM⟩ := be_of hcr
      obtain ⟨hgl, hfz⟩ := half_free HK.out hx
      have x0 := hc 0 _ rfl
      have x1 := hc 1 _ rfl
      have x2 := hc 2 _ rfl
      have x3 := hc 3 _ rfl
      have x4 := hc 4 _ rfl
      have HX := Lib.hid hx
      have HM := Lib.hid (hM.drop HBR.out)
      have HE := Lib.hid (HSM.out _ (List.mem_of_getElem? hx))
      clear hc hcr hM hx
      simp only [Nat.add_zero] at x0
      go_wp2_with fail
      refine (clBlk_any E wr HM.out HE.out).mono ?_
      rintro e w2 ⟨ds, rfl, hO, b2⟩
      have HO := Lib.hid hO
      obtain ⟨v, rfl, -, -, -, -, ⟨D, q, rfl, -, -, -⟩⟩ := hO
      have x0 := keepB x0 b2
      have x1 := keepB x1 b2
      have x2 := keepB x2 b2
      have x3 := keepB x3 b2
      have x4 := keepB x4 b2
      have hfz2 : ∀ j, w2.frozen? ⟨w.heap.size, j, none⟩ = false := fun j => (b2.frozen (p := ⟨w.heap.size, j, none⟩) hgl).trans (hfz j)
      have HB2 := Lib.hid b2
      clear hfz b2 hgl
      go_wp2_with fail
      have HN := Lib.hid (half_step kpo_blk HK.out HX.out HB2.out HO.out rfl)
      have HB3 := Lib.hid (setCells_below [.slice D E.x.list.length q, .int .i64 E.x.jump, .int .i64 E.x.arg, .int .i64 E.x.t0, .int .i64 E.x.t1] (k * 5) (HBR.out.trans (HB2.out.mono HBR.out.size)) (Nat.le_refl _))
      go_roundw
      case rel => exact ⟨k + 1, hlt, by go_num, HN, HB3⟩
      case measure => simp [intOf]; omega
    · obtain rfl : k = l.length := by omega
      go_wp2_with fail
      go_ret
      exact ⟨_, rfl, half_end HK.out HA.out hl, HBR.out⟩

set_option maxRecDepth 20000 in
set_option maxHeartbeats 1000000 in
theorem eachSt (A : Option Addr) (c0 : Nat) (l : List St) (w : World) (hR : SL 2 stR w A l) (hl : l.length ≤ 1099511627776) (hsm : ∀ x ∈ l, x.fields.length ≤ 1099511627776) :
    Calls Tryd.prog 45 #[.slice A l.length c0, .func (.func 46) #[] #[]] w (RwQ 2 stO l w) := by
  obtain ⟨FL, hf, hs⟩ := flat_of cz_st hR
  have HF := Lib.hid hf
  have HS := Lib.hid hs
  have HSM := Lib.hid hsm
  clear hR hf hs hsm
  go_enter Tryd.func45, Tryd.ntmps45
  go_wp2_with fail
  refine (rowSt A c0 l.length FL w hl HF.out.1 HF.out.2.1 HS.out).mono ?_
  rintro e w1 ⟨B, rfl, hg, b1⟩
  have HA := Lib.hid (fun h => (hg h).1)
  have HH := Lib.hid (half_start (O := stO) (e := 58) HF.out (fun h => (hg h).2))
  have HB := Lib.hid b1
  clear hg b1
  go_wp2_with fail
  go_loopw [11] (fun i wr => CRel 2 stR stO w 58 l i wr) (fun i _ => l.length - (intOf i).toNat)
  case atStart => exact ⟨0, Nat.zero_le _, rfl, HH, HB⟩
  case round =>
    obtain ⟨k, hk, rfl, HK, HBR⟩ := hrel
    by_cases hlt : k < l.length
    · obtain ⟨x, hx⟩ : ∃ x, l[k]? = some x := ⟨_, List.getElem?_eq_getElem hlt⟩
      obtain rfl := HA.out (Nat.lt_of_le_of_lt (Nat.zero_le _) hlt)
      obtain ⟨cs, hcr, hc⟩ := half_at HK.out hx
      obtain ⟨E, rfl, rfl, hM⟩ := te_of hcr
      obtain ⟨hgl, hfz⟩ := half_free HK.out hx
      have x0 := hc 0 _ rfl
      have x1 := hc 1 _ rfl
      have HX := Lib.hid hx
      have HM := Lib.hid (hM.drop HBR.out)
      have HE := Lib.hid (HSM.out _ (List.mem_of_getElem? hx))
      clear hc hcr hM hx
      simp only [Nat.add_zero] at x0
      go_wp2_with fail
      refine (clSt_any E wr HM.out HE.out).mono ?_
      rintro e w2 ⟨ds, rfl, hO, b2⟩
      have HO := Lib.hid hO
      obtain ⟨v, rfl, -, ⟨D, q, rfl, -, -, -⟩⟩ := hO
      have x0 := keepB x0 b2
      have x1 := keepB x1 b2
      have hfz2 : ∀ j, w2.frozen? ⟨w.heap.size, j, none⟩ = false := fun j => (b2.frozen (p := ⟨w.heap.size, j, none⟩) hgl).trans (hfz j)
      have HB2 := Lib.hid b2
      clear hfz b2 hgl
      go_wp2_with fail
      have HN := Lib.hid (half_step kpo_st HK.out HX.out HB2.out HO.out rfl)
      have HB3 := Lib.hid (setCells_below [.string E.x.name, .slice D E.x.fields.length q] (k * 2) (HBR.out.trans (HB2.out.mono HBR.out.size)) (Nat.le_refl _))
      go_roundw
      case rel => exact ⟨k + 1, hlt, by go_num, HN, HB3⟩
      case measure => simp [intOf]; omega
    · obtain rfl : k = l.length := by omega
      go_wp2_with fail
      go_ret
      exact ⟨_, rfl, half_end HK.out HA.out hl, HBR.out⟩

end Go.Proofs.YtcbjcpmkebbfaaaDoor
