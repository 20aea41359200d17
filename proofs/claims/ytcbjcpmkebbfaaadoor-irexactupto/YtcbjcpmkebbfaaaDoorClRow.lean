/-
  CONTRACTS: ir's cloneRow at each type of row: a row of the same cells in new memory. Of what was there nothing has turned.
-/
import Derived.Test.YtcbjcpmkebbfaaaDoorClO
namespace Go.Proofs.YtcbjcpmkebbfaaaDoor
open Go Go.RowKit

theorem wpList_make_size {P : Program} (w : World) {ops : Array Oper} {rest : List Oper} {o : Oper} {a : Act} {Q : Exit → Act → World → Prop}
    (hg : o.guard = none) (l c : Operand) (t : TypeId) (hop : o.op = Op.makeSlice t l c)
    (base : Nat) (e : TypeId) (i : TypeInfo) (z : Value) (size : Nat) (h1 : P.underlying t = some (.slice e)) (h2 : P.info? e = some i) (h3 : i.zero = some z) (h4 : i.size = size)
    (kl kc : IntKind) (L C : Int) (n : Nat) (hl : a.eval l = .int kl L) (hc : a.eval c = .int kc C) (hL : L = (n : Int)) (hC : C = (n : Int)) (b2 : i.bytes * n ≤ 281474976710656) (b3 : n ≤ maxLen) (b4 : base ≤ w.heap.size)
    (hK : ∀ w', w'.ownsRow base e size (.slice (some ⟨w.heap.size, 0, none⟩) n n) n (madeCells z.cells (n * size)).toList → Below w.heap.size w w' → w'.heap.size = w.heap.size + 1 → wpList P ops Q rest (a.put o.dst (.slice (some ⟨w.heap.size, 0, none⟩) n n)) w') :
    wpList P ops Q (o :: rest) a w := by
  refine wpList_plain hg fun K hK' => ?_
  have h63' : (n : Int) ≤ 9223372036854775807 := by
    have h := b3
    simp [maxLen] at h
    omega
  have hb' : (i.bytes : Int) * (n : Int) ≤ 281474976710656 := by
    have h : ((i.bytes * n : Nat) : Int) ≤ 281474976710656 := by omega
    rwa [Int.natCast_mul] at h
  have hr := run_make (P := P) w t e i z h1 h2 h3 kl kc n n (by omega) (Int.le_refl _) hb' h63'
  simp only [Int.toNat_natCast, h4] at hr
  subst hL
  subst hC
  unfold Oper.wp
  simp [execOp, hop, hl, hc, hr, Result.andThen]
  refine hK' _ _ (hK _ (World.ownsRow_lit w _ n b4 b3 (size_madeCells _ _)) ((Below.refl _ w).alloc (Nat.le_refl _) _) (by simp))

/-- What cloneRow answers: a row of those cells, in a block of its own. -/
def RowN (w : World) (m : Nat) (e : TypeId) (FL : List Value) (en : Ending) (w' : World) : Prop :=
  ∃ A, en = .returned (.slice A m m) ∧ (0 < m → A = some ⟨w.heap.size, 0, none⟩ ∧ w'.heap[w.heap.size]? = some (.cells FL.toArray e (0, 0))) ∧ Below w.heap.size w w'
theorem made_cells {w : World} {base : Nat} {e : TypeId} {size : Nat} {g n cap : Nat} {xs : List Value} (h : w.ownsRow base e size (.slice (some ⟨g, 0, none⟩) n cap) n xs) : ∃ cur : Array Value, w.heap[g]? = some (.cells cur e (0, 0)) ∧ cur.size = cap * size := by
  rcases h.2 with ⟨h1, _⟩ | ⟨g', cap', cur, h1, _, h3, _, _, h5, _⟩
  · cases h1
  · injection h1 with h6 _ h7
    injection h6 with h6
    injection h6 with h6
    subst h6
    subst h7
    exact ⟨cur, h3, h5⟩
theorem rowInt_info : (Tryd.prog.info? 3).map (fun i => (i.zero, i.size, i.bytes)) = some (some (.int .i64 0), 1, 8) := by kernel_rfl
theorem rowInt_size : (Tryd.prog.info? 3).map (·.size) = some 1 := by kernel_rfl
theorem rowInt_nil (m c : Nat) (w : World) : (binOp BinOp.eql 42 (.slice none m c) (.slice none 0 0)).run Tryd.prog w = .ok (.bool true) w := by kernel_rfl
theorem rowInt_some (a : Addr) (m c : Nat) (w : World) : (binOp BinOp.eql 42 (.slice (some a) m c) (.slice none 0 0)).run Tryd.prog w = .ok (.bool false) w := by kernel_rfl
set_option maxRecDepth 20000 in
set_option maxHeartbeats 1000000 in
theorem rowInt (A : Option Addr) (c0 m : Nat) (FL : List Value) (w : World) (hm : m ≤ 1099511627776) (hlen : FL.length = m * 1) (hone : ∀ v ∈ FL, v.oneCell' = true)
    (hsrc : 0 < m → ∃ b o, A = some ⟨b, o, none⟩ ∧ b < w.heap.size ∧ ∀ j v, FL[j]? = some v → w.cell? ⟨b, o + j, none⟩ = some v) :
    Calls Tryd.prog 75 #[.slice A m c0] w (RowN w m 3 FL) := by
  obtain ⟨i0, hi0, hz0, hz1, hz2⟩ := info_parts rowInt_info
  have HI0 := Lib.hid hi0
  have HZ0 := Lib.hid hz0
  have HZ1 := Lib.hid hz1
  have HZ2 := Lib.hid hz2
  have HL := Lib.hid hlen
  have HO := Lib.hid hone
  have HS := Lib.hid hsrc
  have HM := Lib.hid hm
  clear hi0 hz0 hz1 hz2 hlen hone hsrc hm
  cases A with
  | none =>
    obtain rfl : m = 0 := by
      rcases Nat.eq_zero_or_pos m with h | h
      · exact h
      · obtain ⟨_, _, h, _⟩ := HS.out h; cases h
    have q := rowInt_nil 0 c0
    go_enter Tryd.func75, Tryd.ntmps75
    go_wp2_with fail
    go_ret
    exact ⟨none, rfl, fun h => by omega, Below.refl _ _⟩
  | some a =>
    have q := rowInt_some a m c0
    go_enter Tryd.func75, Tryd.ntmps75
    go_wp2_with (refine wpList_make_size _ rfl (.tmp 7) (.tmp 7) 42 rfl w.heap.size 3 i0 _ 1 Tryd.underlying42 HI0.out HZ0.out HZ1.out .i64 .i64 m m m rfl rfl rfl rfl (by rw [HZ2.out]; have := HM.out; omega) (by simp only [maxLen]; have := HM.out; omega) (Nat.le_refl _) ?_; intro w1 hown hb1 hs1; refine Hid.out ?_)
    obtain ⟨cur, hg, hcs⟩ := made_cells hown
    have HG := Lib.hid hg
    have HC := Lib.hid hcs
    have HB1 := Lib.hid hb1
    have HS1 := Lib.hid hs1
    have HSRC : Hid (0 < m → ∃ ad, some a = some ad ∧ ∀ j v, FL[j]? = some v → w1.cell? (ad.add j) = some v) := fun hp => by
      obtain ⟨b, o, hA, hb, hc⟩ := HS.out hp
      refine ⟨a, rfl, fun j v hv => ?_⟩
      obtain rfl := Option.some.inj hA
      rw [Go.Addr.add_lit]
      exact (HB1.out.cell (p := ⟨b, o + j, none⟩) hb).trans (hc j v hv)
    clear hg hcs hown hb1 hs1
    refine Lib.hid ?_
    go_wp2_with (refine wpList_copy_made rfl (.tmp 9) (.tmp 10) 42 42 rfl 3 1 Tryd.underlying42 rowInt_size w.heap.size m _ _ _ rfl rfl cur 3 HG.out HC.out FL HL.out HSRC.out HO.out ?_; refine Hid.out ?_)
    have hgr := setRow_heap w1 w.heap.size cur FL.toArray 3 _ HG.out
    have HGR := Lib.hid hgr
    have hbr := below_setRow HB1.out (Nat.le_refl _) FL.toArray
    have HBR := Lib.hid hbr
    clear hgr hbr
    refine Lib.hid ?_
    generalize w1.setRow w.heap.size FL.toArray = w2 at *
    go_wp2_with fail
    go_ret
    exact ⟨_, rfl, fun _ => ⟨rfl, HGR.out⟩, HBR.out⟩

theorem rowStr_info : (Tryd.prog.info? 9).map (fun i => (i.zero, i.size, i.bytes)) = some (some (.string ⟨#[]⟩), 1, 16) := by kernel_rfl
theorem rowStr_size : (Tryd.prog.info? 9).map (·.size) = some 1 := by kernel_rfl
theorem rowStr_nil (m c : Nat) (w : World) : (binOp BinOp.eql 31 (.slice none m c) (.slice none 0 0)).run Tryd.prog w = .ok (.bool true) w := by kernel_rfl
theorem rowStr_some (a : Addr) (m c : Nat) (w : World) : (binOp BinOp.eql 31 (.slice (some a) m c) (.slice none 0 0)).run Tryd.prog w = .ok (.bool false) w := by kernel_rfl
set_option maxRecDepth 20000 in
set_option maxHeartbeats 1000000 in
theorem rowStr (A : Option Addr) (c0 m : Nat) (FL : List Value) (w : World) (hm : m ≤ 1099511627776) (hlen : FL.length = m * 1) (hone : ∀ v ∈ FL, v.oneCell' = true)
    (hsrc : 0 < m → ∃ b o, A = some ⟨b, o, none⟩ ∧ b < w.heap.size ∧ ∀ j v, FL[j]? = some v → w.cell? ⟨b, o + j, none⟩ = some v) :
    Calls Tryd.prog 64 #[.slice A m c0] w (RowN w m 9 FL) := by
  obtain ⟨i0, hi0, hz0, hz1, hz2⟩ := info_parts rowStr_info
  have HI0 := Lib.hid hi0
  have HZ0 := Lib.hid hz0
  have HZ1 := Lib.hid hz1
  have HZ2 := Lib.hid hz2
  have HL := Lib.hid hlen
  have HO := Lib.hid hone
  have HS := Lib.hid hsrc
  have HM := Lib.hid hm
  clear hi0 hz0 hz1 hz2 hlen hone hsrc hm
  cases A with
  | none =>
    obtain rfl : m = 0 := by
      rcases Nat.eq_zero_or_pos m with h | h
      · exact h
      · obtain ⟨_, _, h, _⟩ := HS.out h; cases h
    have q := rowStr_nil 0 c0
    go_enter Tryd.func64, Tryd.ntmps64
    go_wp2_with fail
    go_ret
    exact ⟨none, rfl, fun h => by omega, Below.refl _ _⟩
  | some a =>
    have q := rowStr_some a m c0
    go_enter Tryd.func64, Tryd.ntmps64
    go_wp2_with (refine wpList_make_size _ rfl (.tmp 7) (.tmp 7) 31 rfl w.heap.size 9 i0 _ 1 Tryd.underlying31 HI0.out HZ0.out HZ1.out .i64 .i64 m m m rfl rfl rfl rfl (by rw [HZ2.out]; have := HM.out; omega) (by simp only [maxLen]; have := HM.out; omega) (Nat.le_refl _) ?_; intro w1 hown hb1 hs1; refine Hid.out ?_)
    obtain ⟨cur, hg, hcs⟩ := made_cells hown
    have HG := Lib.hid hg
    have HC := Lib.hid hcs
    have HB1 := Lib.hid hb1
    have HS1 := Lib.hid hs1
    have HSRC : Hid (0 < m → ∃ ad, some a = some ad ∧ ∀ j v, FL[j]? = some v → w1.cell? (ad.add j) = some v) := fun hp => by
      obtain ⟨b, o, hA, hb, hc⟩ := HS.out hp
      refine ⟨a, rfl, fun j v hv => ?_⟩
      obtain rfl := Option.some.inj hA
      rw [Go.Addr.add_lit]
      exact (HB1.out.cell (p := ⟨b, o + j, none⟩) hb).trans (hc j v hv)
    clear hg hcs hown hb1 hs1
    refine Lib.hid ?_
    go_wp2_with (refine wpList_copy_made rfl (.tmp 9) (.tmp 10) 31 31 rfl 9 1 Tryd.underlying31 rowStr_size w.heap.size m _ _ _ rfl rfl cur 9 HG.out HC.out FL HL.out HSRC.out HO.out ?_; refine Hid.out ?_)
    have hgr := setRow_heap w1 w.heap.size cur FL.toArray 9 _ HG.out
    have HGR := Lib.hid hgr
    have hbr := below_setRow HB1.out (Nat.le_refl _) FL.toArray
    have HBR := Lib.hid hbr
    clear hgr hbr
    refine Lib.hid ?_
    generalize w1.setRow w.heap.size FL.toArray = w2 at *
    go_wp2_with fail
    go_ret
    exact ⟨_, rfl, fun _ => ⟨rfl, HGR.out⟩, HBR.out⟩

theorem rowFd_info : (Tryd.prog.info? 62).map (fun i => (i.zero, i.size, i.bytes)) = some (some (.agg #[.string ⟨#[]⟩, .string ⟨#[]⟩]), 2, 32) := by kernel_rfl
theorem rowFd_size : (Tryd.prog.info? 62).map (·.size) = some 2 := by kernel_rfl
theorem rowFd_nil (m c : Nat) (w : World) : (binOp BinOp.eql 23 (.slice none m c) (.slice none 0 0)).run Tryd.prog w = .ok (.bool true) w := by kernel_rfl
theorem rowFd_some (a : Addr) (m c : Nat) (w : World) : (binOp BinOp.eql 23 (.slice (some a) m c) (.slice none 0 0)).run Tryd.prog w = .ok (.bool false) w := by kernel_rfl
set_option maxRecDepth 20000 in
set_option maxHeartbeats 1000000 in
theorem rowFd (A : Option Addr) (c0 m : Nat) (FL : List Value) (w : World) (hm : m ≤ 1099511627776) (hlen : FL.length = m * 2) (hone : ∀ v ∈ FL, v.oneCell' = true)
    (hsrc : 0 < m → ∃ b o, A = some ⟨b, o, none⟩ ∧ b < w.heap.size ∧ ∀ j v, FL[j]? = some v → w.cell? ⟨b, o + j, none⟩ = some v) :
    Calls Tryd.prog 47 #[.slice A m c0] w (RowN w m 62 FL) := by
  obtain ⟨i0, hi0, hz0, hz1, hz2⟩ := info_parts rowFd_info
  have HI0 := Lib.hid hi0
  have HZ0 := Lib.hid hz0
  have HZ1 := Lib.hid hz1
  have HZ2 := Lib.hid hz2
  have HL := Lib.hid hlen
  have HO := Lib.hid hone
  have HS := Lib.hid hsrc
  have HM := Lib.hid hm
  clear hi0 hz0 hz1 hz2 hlen hone hsrc hm
  cases A with
  | none =>
    obtain rfl : m = 0 := by
      rcases Nat.eq_zero_or_pos m with h | h
      · exact h
      · obtain ⟨_, _, h, _⟩ := HS.out h; cases h
    have q := rowFd_nil 0 c0
    go_enter Tryd.func47, Tryd.ntmps47
    go_wp2_with fail
    go_ret
    exact ⟨none, rfl, fun h => by omega, Below.refl _ _⟩
  | some a =>
    have q := rowFd_some a m c0
    go_enter Tryd.func47, Tryd.ntmps47
    go_wp2_with (refine wpList_make_size _ rfl (.tmp 7) (.tmp 7) 23 rfl w.heap.size 62 i0 _ 2 Tryd.underlying23 HI0.out HZ0.out HZ1.out .i64 .i64 m m m rfl rfl rfl rfl (by rw [HZ2.out]; have := HM.out; omega) (by simp only [maxLen]; have := HM.out; omega) (Nat.le_refl _) ?_; intro w1 hown hb1 hs1; refine Hid.out ?_)
    obtain ⟨cur, hg, hcs⟩ := made_cells hown
    have HG := Lib.hid hg
    have HC := Lib.hid hcs
    have HB1 := Lib.hid hb1
    have HS1 := Lib.hid hs1
    have HSRC : Hid (0 < m → ∃ ad, some a = some ad ∧ ∀ j v, FL[j]? = some v → w1.cell? (ad.add j) = some v) := fun hp => by
      obtain ⟨b, o, hA, hb, hc⟩ := HS.out hp
      refine ⟨a, rfl, fun j v hv => ?_⟩
      obtain rfl := Option.some.inj hA
      rw [Go.Addr.add_lit]
      exact (HB1.out.cell (p := ⟨b, o + j, none⟩) hb).trans (hc j v hv)
    clear hg hcs hown hb1 hs1
    refine Lib.hid ?_
    go_wp2_with (refine wpList_copy_made rfl (.tmp 9) (.tmp 10) 23 23 rfl 62 2 Tryd.underlying23 rowFd_size w.heap.size m _ _ _ rfl rfl cur 62 HG.out HC.out FL HL.out HSRC.out HO.out ?_; refine Hid.out ?_)
    have hgr := setRow_heap w1 w.heap.size cur FL.toArray 62 _ HG.out
    have HGR := Lib.hid hgr
    have hbr := below_setRow HB1.out (Nat.le_refl _) FL.toArray
    have HBR := Lib.hid hbr
    clear hgr hbr
    refine Lib.hid ?_
    generalize w1.setRow w.heap.size FL.toArray = w2 at *
    go_wp2_with fail
    go_ret
    exact ⟨_, rfl, fun _ => ⟨rfl, HGR.out⟩, HBR.out⟩

theorem rowSt_info : (Tryd.prog.info? 58).map (fun i => (i.zero, i.size, i.bytes)) = some (some (.agg #[.string ⟨#[]⟩, .slice none 0 0]), 2, 40) := by kernel_rfl
theorem rowSt_size : (Tryd.prog.info? 58).map (·.size) = some 2 := by kernel_rfl
theorem rowSt_nil (m c : Nat) (w : World) : (binOp BinOp.eql 22 (.slice none m c) (.slice none 0 0)).run Tryd.prog w = .ok (.bool true) w := by kernel_rfl
theorem rowSt_some (a : Addr) (m c : Nat) (w : World) : (binOp BinOp.eql 22 (.slice (some a) m c) (.slice none 0 0)).run Tryd.prog w = .ok (.bool false) w := by kernel_rfl
set_option maxRecDepth 20000 in
set_option maxHeartbeats 1000000 in
theorem rowSt (A : Option Addr) (c0 m : Nat) (FL : List Value) (w : World) (hm : m ≤ 1099511627776) (hlen : FL.length = m * 2) (hone : ∀ v ∈ FL, v.oneCell' = true)
    (hsrc : 0 < m → ∃ b o, A = some ⟨b, o, none⟩ ∧ b < w.heap.size ∧ ∀ j v, FL[j]? = some v → w.cell? ⟨b, o + j, none⟩ = some v) :
    Calls Tryd.prog 62 #[.slice A m c0] w (RowN w m 58 FL) := by
  obtain ⟨i0, hi0, hz0, hz1, hz2⟩ := info_parts rowSt_info
  have HI0 := Lib.hid hi0
  have HZ0 := Lib.hid hz0
  have HZ1 := Lib.hid hz1
  have HZ2 := Lib.hid hz2
  have HL := Lib.hid hlen
  have HO := Lib.hid hone
  have HS := Lib.hid hsrc
  have HM := Lib.hid hm
  clear hi0 hz0 hz1 hz2 hlen hone hsrc hm
  cases A with
  | none =>
    obtain rfl : m = 0 := by
      rcases Nat.eq_zero_or_pos m with h | h
      · exact h
      · obtain ⟨_, _, h, _⟩ := HS.out h; cases h
    have q := rowSt_nil 0 c0
    go_enter Tryd.func62, Tryd.ntmps62
    go_wp2_with fail
    go_ret
    exact ⟨none, rfl, fun h => by omega, Below.refl _ _⟩
  | some a =>
    have q := rowSt_some a m c0
    go_enter Tryd.func62, Tryd.ntmps62
    go_wp2_with (refine wpList_make_size _ rfl (.tmp 7) (.tmp 7) 22 rfl w.heap.size 58 i0 _ 2 Tryd.underlying22 HI0.out HZ0.out HZ1.out .i64 .i64 m m m rfl rfl rfl rfl (by rw [HZ2.out]; have := HM.out; omega) (by simp only [maxLen]; have := HM.out; omega) (Nat.le_refl _) ?_; intro w1 hown hb1 hs1; refine Hid.out ?_)
    obtain ⟨cur, hg, hcs⟩ := made_cells hown
    have HG := Lib.hid hg
    have HC := Lib.hid hcs
    have HB1 := Lib.hid hb1
    have HS1 := Lib.hid hs1
    have HSRC : Hid (0 < m → ∃ ad, some a = some ad ∧ ∀ j v, FL[j]? = some v → w1.cell? (ad.add j) = some v) := fun hp => by
      obtain ⟨b, o, hA, hb, hc⟩ := HS.out hp
      refine ⟨a, rfl, fun j v hv => ?_⟩
      obtain rfl := Option.some.inj hA
      rw [Go.Addr.add_lit]
      exact (HB1.out.cell (p := ⟨b, o + j, none⟩) hb).trans (hc j v hv)
    clear hg hcs hown hb1 hs1
    refine Lib.hid ?_
    go_wp2_with (refine wpList_copy_made rfl (.tmp 9) (.tmp 10) 22 22 rfl 58 2 Tryd.underlying22 rowSt_size w.heap.size m _ _ _ rfl rfl cur 58 HG.out HC.out FL HL.out HSRC.out HO.out ?_; refine Hid.out ?_)
    have hgr := setRow_heap w1 w.heap.size cur FL.toArray 58 _ HG.out
    have HGR := Lib.hid hgr
    have hbr := below_setRow HB1.out (Nat.le_refl _) FL.toArray
    have HBR := Lib.hid hbr
    clear hgr hbr
    refine Lib.hid ?_
    generalize w1.setRow w.heap.size FL.toArray = w2 at *
    go_wp2_with fail
    go_ret
    exact ⟨_, rfl, fun _ => ⟨rfl, HGR.out⟩, HBR.out⟩

theorem rowIns_info : (Tryd.prog.info? 47).map (fun i => (i.zero, i.size, i.bytes)) = some (some (.agg #[.int .i64 0, .string ⟨#[]⟩, .slice none 0 0, .int .i64 0, .string ⟨#[]⟩]), 5, 72) := by kernel_rfl
theorem rowIns_size : (Tryd.prog.info? 47).map (·.size) = some 5 := by kernel_rfl
theorem rowIns_nil (m c : Nat) (w : World) : (binOp BinOp.eql 37 (.slice none m c) (.slice none 0 0)).run Tryd.prog w = .ok (.bool true) w := by kernel_rfl
theorem rowIns_some (a : Addr) (m c : Nat) (w : World) : (binOp BinOp.eql 37 (.slice (some a) m c) (.slice none 0 0)).run Tryd.prog w = .ok (.bool false) w := by kernel_rfl
set_option maxRecDepth 20000 in
set_option maxHeartbeats 1000000 in
theorem rowIns (A : Option Addr) (c0 m : Nat) (FL : List Value) (w : World) (hm : m ≤ 1099511627776) (hlen : FL.length = m * 5) (hone : ∀ v ∈ FL, v.oneCell' = true)
    (hsrc : 0 < m → ∃ b o, A = some ⟨b, o, none⟩ ∧ b < w.heap.size ∧ ∀ j v, FL[j]? = some v → w.cell? ⟨b, o + j, none⟩ = some v) :
    Calls Tryd.prog 74 #[.slice A m c0] w (RowN w m 47 FL) := by
  obtain ⟨i0, hi0, hz0, hz1, hz2⟩ := info_parts rowIns_info
  have HI0 := Lib.hid hi0
  have HZ0 := Lib.hid hz0
  have HZ1 := Lib.hid hz1
  have HZ2 := Lib.hid hz2
  have HL := Lib.hid hlen
  have HO := Lib.hid hone
  have HS := Lib.hid hsrc
  have HM := Lib.hid hm
  clear hi0 hz0 hz1 hz2 hlen hone hsrc hm
  cases A with
  | none =>
    obtain rfl : m = 0 := by
      rcases Nat.eq_zero_or_pos m with h | h
      · exact h
      · obtain ⟨_, _, h, _⟩ := HS.out h; cases h
    have q := rowIns_nil 0 c0
    go_enter Tryd.func74, Tryd.ntmps74
    go_wp2_with fail
    go_ret
    exact ⟨none, rfl, fun h => by omega, Below.refl _ _⟩
  | some a =>
    have q := rowIns_some a m c0
    go_enter Tryd.func74, Tryd.ntmps74
    go_wp2_with (refine wpList_make_size _ rfl (.tmp 7) (.tmp 7) 37 rfl w.heap.size 47 i0 _ 5 Tryd.underlying37 HI0.out HZ0.out HZ1.out .i64 .i64 m m m rfl rfl rfl rfl (by rw [HZ2.out]; have := HM.out; omega) (by simp only [maxLen]; have := HM.out; omega) (Nat.le_refl _) ?_; intro w1 hown hb1 hs1; refine Hid.out ?_)
    obtain ⟨cur, hg, hcs⟩ := made_cells hown
    have HG := Lib.hid hg
    have HC := Lib.hid hcs
    have HB1 := Lib.hid hb1
    have HS1 := Lib.hid hs1
    have HSRC : Hid (0 < m → ∃ ad, some a = some ad ∧ ∀ j v, FL[j]? = some v → w1.cell? (ad.add j) = some v) := fun hp => by
      obtain ⟨b, o, hA, hb, hc⟩ := HS.out hp
      refine ⟨a, rfl, fun j v hv => ?_⟩
      obtain rfl := Option.some.inj hA
      rw [Go.Addr.add_lit]
      exact (HB1.out.cell (p := ⟨b, o + j, none⟩) hb).trans (hc j v hv)
    clear hg hcs hown hb1 hs1
    refine Lib.hid ?_
    go_wp2_with (refine wpList_copy_made rfl (.tmp 9) (.tmp 10) 37 37 rfl 47 5 Tryd.underlying37 rowIns_size w.heap.size m _ _ _ rfl rfl cur 47 HG.out HC.out FL HL.out HSRC.out HO.out ?_; refine Hid.out ?_)
    have hgr := setRow_heap w1 w.heap.size cur FL.toArray 47 _ HG.out
    have HGR := Lib.hid hgr
    have hbr := below_setRow HB1.out (Nat.le_refl _) FL.toArray
    have HBR := Lib.hid hbr
    clear hgr hbr
    refine Lib.hid ?_
    generalize w1.setRow w.heap.size FL.toArray = w2 at *
    go_wp2_with fail
    go_ret
    exact ⟨_, rfl, fun _ => ⟨rfl, HGR.out⟩, HBR.out⟩

theorem rowBlk_info : (Tryd.prog.info? 53).map (fun i => (i.zero, i.size, i.bytes)) = some (some (.agg #[.slice none 0 0, .int .i64 0, .int .i64 0, .int .i64 0, .int .i64 0]), 5, 56) := by kernel_rfl
theorem rowBlk_size : (Tryd.prog.info? 53).map (·.size) = some 5 := by kernel_rfl
theorem rowBlk_nil (m c : Nat) (w : World) : (binOp BinOp.eql 38 (.slice none m c) (.slice none 0 0)).run Tryd.prog w = .ok (.bool true) w := by kernel_rfl
theorem rowBlk_some (a : Addr) (m c : Nat) (w : World) : (binOp BinOp.eql 38 (.slice (some a) m c) (.slice none 0 0)).run Tryd.prog w = .ok (.bool false) w := by kernel_rfl
set_option maxRecDepth 20000 in
set_option maxHeartbeats 1000000 in
theorem rowBlk (A : Option Addr) (c0 m : Nat) (FL : List Value) (w : World) (hm : m ≤ 1099511627776) (hlen : FL.length = m * 5) (hone : ∀ v ∈ FL, v.oneCell' = true)
    (hsrc : 0 < m → ∃ b o, A = some ⟨b, o, none⟩ ∧ b < w.heap.size ∧ ∀ j v, FL[j]? = some v → w.cell? ⟨b, o + j, none⟩ = some v) :
    Calls Tryd.prog 76 #[.slice A m c0] w (RowN w m 53 FL) := by
  obtain ⟨i0, hi0, hz0, hz1, hz2⟩ := info_parts rowBlk_info
  have HI0 := Lib.hid hi0
  have HZ0 := Lib.hid hz0
  have HZ1 := Lib.hid hz1
  have HZ2 := Lib.hid hz2
  have HL := Lib.hid hlen
  have HO := Lib.hid hone
  have HS := Lib.hid hsrc
  have HM := Lib.hid hm
  clear hi0 hz0 hz1 hz2 hlen hone hsrc hm
  cases A with
  | none =>
    obtain rfl : m = 0 := by
      rcases Nat.eq_zero_or_pos m with h | h
      · exact h
      · obtain ⟨_, _, h, _⟩ := HS.out h; cases h
    have q := rowBlk_nil 0 c0
    go_enter Tryd.func76, Tryd.ntmps76
    go_wp2_with fail
    go_ret
    exact ⟨none, rfl, fun h => by omega, Below.refl _ _⟩
  | some a =>
    have q := rowBlk_some a m c0
    go_enter Tryd.func76, Tryd.ntmps76
    go_wp2_with (refine wpList_make_size _ rfl (.tmp 7) (.tmp 7) 38 rfl w.heap.size 53 i0 _ 5 Tryd.underlying38 HI0.out HZ0.out HZ1.out .i64 .i64 m m m rfl rfl rfl rfl (by rw [HZ2.out]; have := HM.out; omega) (by simp only [maxLen]; have := HM.out; omega) (Nat.le_refl _) ?_; intro w1 hown hb1 hs1; refine Hid.out ?_)
    obtain ⟨cur, hg, hcs⟩ := made_cells hown
    have HG := Lib.hid hg
    have HC := Lib.hid hcs
    have HB1 := Lib.hid hb1
    have HS1 := Lib.hid hs1
    have HSRC : Hid (0 < m → ∃ ad, some a = some ad ∧ ∀ j v, FL[j]? = some v → w1.cell? (ad.add j) = some v) := fun hp => by
      obtain ⟨b, o, hA, hb, hc⟩ := HS.out hp
      refine ⟨a, rfl, fun j v hv => ?_⟩
      obtain rfl := Option.some.inj hA
      rw [Go.Addr.add_lit]
      exact (HB1.out.cell (p := ⟨b, o + j, none⟩) hb).trans (hc j v hv)
    clear hg hcs hown hb1 hs1
    refine Lib.hid ?_
    go_wp2_with (refine wpList_copy_made rfl (.tmp 9) (.tmp 10) 38 38 rfl 53 5 Tryd.underlying38 rowBlk_size w.heap.size m _ _ _ rfl rfl cur 53 HG.out HC.out FL HL.out HSRC.out HO.out ?_; refine Hid.out ?_)
    have hgr := setRow_heap w1 w.heap.size cur FL.toArray 53 _ HG.out
    have HGR := Lib.hid hgr
    have hbr := below_setRow HB1.out (Nat.le_refl _) FL.toArray
    have HBR := Lib.hid hbr
    clear hgr hbr
    refine Lib.hid ?_
    generalize w1.setRow w.heap.size FL.toArray = w2 at *
    go_wp2_with fail
    go_ret
    exact ⟨_, rfl, fun _ => ⟨rfl, HGR.out⟩, HBR.out⟩

theorem rowFn_info : (Tryd.prog.info? 40).map (fun i => (i.zero, i.size, i.bytes)) = some (some (.agg #[.string ⟨#[]⟩, .slice none 0 0, .string ⟨#[]⟩, .slice none 0 0, .slice none 0 0, .slice none 0 0]), 6, 128) := by kernel_rfl
theorem rowFn_size : (Tryd.prog.info? 40).map (·.size) = some 6 := by kernel_rfl
theorem rowFn_nil (m c : Nat) (w : World) : (binOp BinOp.eql 24 (.slice none m c) (.slice none 0 0)).run Tryd.prog w = .ok (.bool true) w := by kernel_rfl
theorem rowFn_some (a : Addr) (m c : Nat) (w : World) : (binOp BinOp.eql 24 (.slice (some a) m c) (.slice none 0 0)).run Tryd.prog w = .ok (.bool false) w := by kernel_rfl
set_option maxRecDepth 20000 in
set_option maxHeartbeats 1000000 in
theorem rowFn (A : Option Addr) (c0 m : Nat) (FL : List Value) (w : World) (hm : m ≤ 1099511627776) (hlen : FL.length = m * 6) (hone : ∀ v ∈ FL, v.oneCell' = true)
    (hsrc : 0 < m → ∃ b o, A = some ⟨b, o, none⟩ ∧ b < w.heap.size ∧ ∀ j v, FL[j]? = some v → w.cell? ⟨b, o + j, none⟩ = some v) :
    Calls Tryd.prog 63 #[.slice A m c0] w (RowN w m 40 FL) := by
  obtain ⟨i0, hi0, hz0, hz1, hz2⟩ := info_parts rowFn_info
  have HI0 := Lib.hid hi0
  have HZ0 := Lib.hid hz0
  have HZ1 := Lib.hid hz1
  have HZ2 := Lib.hid hz2
  have HL := Lib.hid hlen
  have HO := Lib.hid hone
  have HS := Lib.hid hsrc
  have HM := Lib.hid hm
  clear hi0 hz0 hz1 hz2 hlen hone hsrc hm
  cases A with
  | none =>
    obtain rfl : m = 0 := by
      rcases Nat.eq_zero_or_pos m with h | h
      · exact h
      · obtain ⟨_, _, h, _⟩ := HS.out h; cases h
    have q := rowFn_nil 0 c0
    go_enter Tryd.func63, Tryd.ntmps63
    go_wp2_with fail
    go_ret
    exact ⟨none, rfl, fun h => by omega, Below.refl _ _⟩
  | some a =>
    have q := rowFn_some a m c0
    go_enter Tryd.func63, Tryd.ntmps63
    go_wp2_with (refine wpList_make_size _ rfl (.tmp 7) (.tmp 7) 24 rfl w.heap.size 40 i0 _ 6 Tryd.underlying24 HI0.out HZ0.out HZ1.out .i64 .i64 m m m rfl rfl rfl rfl (by rw [HZ2.out]; have := HM.out; omega) (by simp only [maxLen]; have := HM.out; omega) (Nat.le_refl _) ?_; intro w1 hown hb1 hs1; refine Hid.out ?_)
    obtain ⟨cur, hg, hcs⟩ := made_cells hown
    have HG := Lib.hid hg
    have HC := Lib.hid hcs
    have HB1 := Lib.hid hb1
    have HS1 := Lib.hid hs1
    have HSRC : Hid (0 < m → ∃ ad, some a = some ad ∧ ∀ j v, FL[j]? = some v → w1.cell? (ad.add j) = some v) := fun hp => by
      obtain ⟨b, o, hA, hb, hc⟩ := HS.out hp
      refine ⟨a, rfl, fun j v hv => ?_⟩
      obtain rfl := Option.some.inj hA
      rw [Go.Addr.add_lit]
      exact (HB1.out.cell (p := ⟨b, o + j, none⟩) hb).trans (hc j v hv)
    clear hg hcs hown hb1 hs1
    refine Lib.hid ?_
    go_wp2_with (refine wpList_copy_made rfl (.tmp 9) (.tmp 10) 24 24 rfl 40 6 Tryd.underlying24 rowFn_size w.heap.size m _ _ _ rfl rfl cur 40 HG.out HC.out FL HL.out HSRC.out HO.out ?_; refine Hid.out ?_)
    have hgr := setRow_heap w1 w.heap.size cur FL.toArray 40 _ HG.out
    have HGR := Lib.hid hgr
    have hbr := below_setRow HB1.out (Nat.le_refl _) FL.toArray
    have HBR := Lib.hid hbr
    clear hgr hbr
    refine Lib.hid ?_
    generalize w1.setRow w.heap.size FL.toArray = w2 at *
    go_wp2_with fail
    go_ret
    exact ⟨_, rfl, fun _ => ⟨rfl, HGR.out⟩, HBR.out⟩

end Go.Proofs.YtcbjcpmkebbfaaaDoor
