/-
  CONTRACTS: the deferred function of Parse, of a call that has thrown a fault and of one that returns. Only its three variables have turned.
-/
import Derived.Test.YtkahbhfbgdbnfaaGreatDoorJ16
import Derived.Defers
import Derived.Recover
import Derived.Test.YtkahbhfbgdbnfaaGreatDoorJ20
namespace Go.Proofs.YtkahbhfbgdbnfaaGreatDoor
open Go.RowKit

set_option maxRecDepth 100000 in
set_option maxHeartbeats 400000 in
theorem catch_idle (a b c : Addr) (w : World) :
    CallsD Tryz.prog 32 #[.pointer (some a), .pointer (some b), .pointer (some c)] .returning w fun e u' w' => e = .returned (.tuple #[]) ∧ u' = .returning ∧ w' = w := by
  refine callsD_of_wpS Tryz.func32 rfl fun c₀ cs hu => ?_
  apply wpS_seq
  apply wpS_region
  simp [wpOpsS, go_sem, recoverD, hu, Tryz.ntmps32, Exit.thenS]
  refine wpS_of_wp ?_
  go_wp2_with fail
  cases c₀
  simp_all [bodyPostS, results, Tryz.results32]

/-- What the deferred function leaves of a fault. -/
def CatchW (b : Nat) (p er : Int) (w w' : World) : Prop := Below b w w' ∧ w'.cell? ⟨b, 0, none⟩ = some (.pointer none) ∧ w'.cell? ⟨b + 1, 0, none⟩ = some (.int .i64 p) ∧ w'.cell? ⟨b + 2, 0, none⟩ = some (.int .i64 er)
theorem assert51 : ∀ (p er : Int) (w : World), (Instr.typeAssert (.iface 67 (.agg #[.int .i64 p, .int .i64 er])) 20 67 true).run Tryz.prog w = .ok (.tuple #[.agg #[.int .i64 p, .int .i64 er], .bool true]) w := fun _ _ _ => by kernel_rfl
set_option maxRecDepth 100000 in
set_option maxHeartbeats 400000 in
theorem catch_fault (b : Nat) (p er : Int) (x : Option Addr) (y z : Int) (older : List PanicEntry) (w : World) (c0 : w.cell? ⟨b, 0, none⟩ = some (.pointer x)) (c1 : w.cell? ⟨b + 1, 0, none⟩ = some (.int .i64 y)) (c2 : w.cell? ⟨b + 2, 0, none⟩ = some (.int .i64 z)) (f0 : w.frozen? ⟨b, 0, none⟩ = false) (f1 : w.frozen? ⟨b + 1, 0, none⟩ = false) (f2 : w.frozen? ⟨b + 2, 0, none⟩ = false) (hl : b + 2 < w.heap.size) :
    CallsD Tryz.prog 32 #[.pointer (some ⟨b, 0, none⟩), .pointer (some ⟨b + 1, 0, none⟩), .pointer (some ⟨b + 2, 0, none⟩)] (.panicking ({ v := .iface 67 (.agg #[.int .i64 p, .int .i64 er]), recovered := false } :: older)) w fun e u' w' =>
      e = .returned (.tuple #[]) ∧ u' = .panicking ({ v := .iface 67 (.agg #[.int .i64 p, .int .i64 er]), recovered := true } :: older) ∧ CatchW b p er w w' := by
  have hta := assert51
  have hb0 : b < w.heap.size := by omega
  have hb1 : b + 1 < w.heap.size := by omega
  refine callsD_of_wpS Tryz.func32 rfl fun c₀ cs hu => ?_
  apply wpS_seq
  apply wpS_region
  simp [wpOpsS, go_sem, recoverD, hu, Tryz.ntmps32, Exit.thenS]
  refine wpS_of_wp ?_
  change Code.wp _ _ _ { tmps := #[.pointer (some ⟨b, 0, none⟩), .pointer (some ⟨b + 1, 0, none⟩), .pointer (some ⟨b + 2, 0, none⟩), undef, undef, undef, .iface 67 (.agg #[.int .i64 p, .int .i64 er]), undef, undef, undef, undef, undef, undef, undef, undef, undef, undef], defers := [] } _
  go_wp2_with fail
  go_region
  all_goals go_wp2_with fail
  have hfin : CatchW b p er w (((((w.setCell ⟨b, 0, none⟩ (.pointer none)).setCell ⟨b + 1, 0, none⟩ (.int .i64 p)).setCell ⟨b + 2, 0, none⟩ (.int .i64 er)).alloc (.cells #[.int .i64 p, .int .i64 er] 67)).drew) := by
    refine ⟨((((((Below.refl b w).setCell (p := ⟨b, 0, none⟩) (Nat.le_refl _) _).setCell (p := ⟨b + 1, 0, none⟩) (Nat.le_succ _) _).setCell (p := ⟨b + 2, 0, none⟩) (by show b ≤ b + 2; omega) _).alloc (by simp; omega) _).drew), ?_, ?_, ?_⟩
    · simp [go_sem, hb0, c0]
    · simp [go_sem, hb1, c1]
    · simp [go_sem, hl, c2]
  generalize ((((w.setCell ⟨b, 0, none⟩ (.pointer none)).setCell ⟨b + 1, 0, none⟩ (.int .i64 p)).setCell ⟨b + 2, 0, none⟩ (.int .i64 er)).alloc (.cells #[.int .i64 p, .int .i64 er] 67)).drew = wz at *
  simp [bodyPostS, results, Tryz.results32, go_sem, hfin]

end Go.Proofs.YtkahbhfbgdbnfaaGreatDoor

/-
  CONTRACTS: Check of package check, and its deferred function; of a Program's node, and of the zero one. Of what was there nothing has turned.
-/
namespace Go.Proofs.YtkahbhfbgdbnfaaGreatDoor
open Go.RowKit

set_option maxRecDepth 100000 in
set_option maxHeartbeats 400000 in
theorem ccatch_idle (a b c : Addr) (w : World) :
    CallsD Tryz.prog 77 #[.pointer (some a), .pointer (some b), .pointer (some c)] .returning w fun e u' w' => e = .returned (.tuple #[]) ∧ u' = .returning ∧ w' = w := by
  refine callsD_of_wpS Tryz.func77 rfl fun c₀ cs hu => ?_
  apply wpS_seq
  apply wpS_region
  simp [wpOpsS, go_sem, recoverD, hu, Tryz.ntmps77, Exit.thenS]
  refine wpS_of_wp ?_
  go_wp2_with fail
  cases c₀
  simp_all [bodyPostS, results, Tryz.results77]

/-- What the deferred function leaves of a fault. -/
structure CatchI (b : Nat) (p er : Int) (w w' : World) : Prop where
  B : Below b w w'
  i0 : w'.cell? ⟨b, 0, none⟩ = some (.slice none 0 0)
  i1 : w'.cell? ⟨b, 1, none⟩ = some (.slice none 0 0)
  i2 : w'.cell? ⟨b, 2, none⟩ = some (.slice none 0 0)
  a : w'.cell? ⟨b + 1, 0, none⟩ = some (.int .i64 p)
  e : w'.cell? ⟨b + 2, 0, none⟩ = some (.int .i64 er)
/-- The variables of Check. -/
structure CV (b : Nat) (w : World) : Prop where
  i0 : w.cell? ⟨b, 0, none⟩ = some (.slice none 0 0)
  i1 : w.cell? ⟨b, 1, none⟩ = some (.slice none 0 0)
  i2 : w.cell? ⟨b, 2, none⟩ = some (.slice none 0 0)
  a : w.cell? ⟨b + 1, 0, none⟩ = some (.int .i64 0)
  e : w.cell? ⟨b + 2, 0, none⟩ = some (.int .i64 0)
  f : ∀ j k, j < 3 → w.frozen? ⟨b + j, k, none⟩ = false
  lt : b + 2 < w.heap.size
theorem CV.below {b : Nat} {w w' : World} (h : CV b w) (hb : Below w.heap.size w w') : CV b w' := by
  have hl := h.lt
  have c : ∀ j k, j < 3 → w'.cell? ⟨b + j, k, none⟩ = w.cell? ⟨b + j, k, none⟩ := fun j k hj => hb.cell (p := ⟨b + j, k, none⟩) (by show b + j < _; omega)
  exact ⟨(c 0 0 (by decide)).trans h.i0, (c 0 1 (by decide)).trans h.i1, (c 0 2 (by decide)).trans h.i2, (c 1 0 (by decide)).trans h.a, (c 2 0 (by decide)).trans h.e, fun j k hj => (hb.frozen (p := ⟨b + j, k, none⟩) (by show b + j < _; omega)).trans (h.f j k hj), Nat.lt_of_lt_of_le hl hb.size⟩
theorem assert133 : ∀ (p er : Int) (w : World), (Instr.typeAssert (.iface 133 (.agg #[.int .i64 p, .int .i64 er])) 20 133 true).run Tryz.prog w = .ok (.tuple #[.agg #[.int .i64 p, .int .i64 er], .bool true]) w := fun _ _ _ => by kernel_rfl
set_option maxRecDepth 100000 in
set_option maxHeartbeats 1000000 in
theorem ccatch_fault (b : Nat) (p er : Int) (older : List PanicEntry) (w : World) (V : CV b w) :
    CallsD Tryz.prog 77 #[.pointer (some ⟨b, 0, none⟩), .pointer (some ⟨b + 1, 0, none⟩), .pointer (some ⟨b + 2, 0, none⟩)] (.panicking ({ v := .iface 133 (.agg #[.int .i64 p, .int .i64 er]), recovered := false } :: older)) w fun e u' w' =>
      e = .returned (.tuple #[]) ∧ u' = .panicking ({ v := .iface 133 (.agg #[.int .i64 p, .int .i64 er]), recovered := true } :: older) ∧ CatchI b p er w w' := by
  have hta := assert133
  obtain ⟨c0, c1, c2, ca, ce, f, hl⟩ := V
  have f0 : w.frozen? ⟨b, 0, none⟩ = false := f 0 0 (by decide)
  have f1 : w.frozen? ⟨b, 1, none⟩ = false := f 0 1 (by decide)
  have f2 : w.frozen? ⟨b, 2, none⟩ = false := f 0 2 (by decide)
  have fa : w.frozen? ⟨b + 1, 0, none⟩ = false := f 1 0 (by decide)
  have fe : w.frozen? ⟨b + 2, 0, none⟩ = false := f 2 0 (by decide)
  have hb0 : b < w.heap.size := by omega
  have hb1 : b + 1 < w.heap.size := by omega
  clear f
  refine callsD_of_wpS Tryz.func77 rfl fun c₀ cs hu => ?_
  apply wpS_seq
  apply wpS_region
  simp [wpOpsS, go_sem, recoverD, hu, Tryz.ntmps77, Exit.thenS]
  refine wpS_of_wp ?_
  change Code.wp _ _ _ { tmps := #[.pointer (some ⟨b, 0, none⟩), .pointer (some ⟨b + 1, 0, none⟩), .pointer (some ⟨b + 2, 0, none⟩), undef, undef, undef, .iface 133 (.agg #[.int .i64 p, .int .i64 er]), undef, undef, undef, undef, undef, undef, undef, undef, undef, undef], defers := [] } _
  go_wp2_with fail
  go_region
  all_goals go_wp2_with fail
  have hfin : CatchI b p er w (((((((w.setCell ⟨b, 0, none⟩ (.slice none 0 0)).setCell ⟨b, 1, none⟩ (.slice none 0 0)).setCell ⟨b, 2, none⟩ (.slice none 0 0)).setCell ⟨b + 1, 0, none⟩ (.int .i64 p)).setCell ⟨b + 2, 0, none⟩ (.int .i64 er)).alloc (.cells #[.int .i64 p, .int .i64 er] 133)).drew) := by
    refine ⟨(((((((Below.refl b w).setCell (p := ⟨b, 0, none⟩) (Nat.le_refl _) _).setCell (p := ⟨b, 1, none⟩) (Nat.le_refl _) _).setCell (p := ⟨b, 2, none⟩) (Nat.le_refl _) _).setCell (p := ⟨b + 1, 0, none⟩) (Nat.le_succ _) _).setCell (p := ⟨b + 2, 0, none⟩) (by show b ≤ b + 2; omega) _).alloc (by simp; omega) _).drew, ?_, ?_, ?_, ?_, ?_⟩
    · simp [go_sem, hb0, c0]
    · simp [go_sem, hb0, c1]
    · simp [go_sem, hb0, c2]
    · simp [go_sem, hb1, ca]
    · simp [go_sem, hl, ce]
  generalize ((((((w.setCell ⟨b, 0, none⟩ (.slice none 0 0)).setCell ⟨b, 1, none⟩ (.slice none 0 0)).setCell ⟨b, 2, none⟩ (.slice none 0 0)).setCell ⟨b + 1, 0, none⟩ (.int .i64 p)).setCell ⟨b + 2, 0, none⟩ (.int .i64 er)).alloc (.cells #[.int .i64 p, .int .i64 er] 133)).drew = wz at *
  simp [bodyPostS, results, Tryz.results77, go_sem, hfin]

/-- What Check answers. -/
def CQ (E : CE) (w : World) (r : CR Inf) (e : Ending) (w' : World) : Prop := Below w.heap.size w w' ∧ (match r with
  | .ok x => ∃ E' : CE, E'.x = x ∧ e = .returned (.tuple #[infV E', .int .i64 0, .int .i64 0]) ∧ IX E' w' w.heap.size
  | .bad p er => e = .returned (.tuple #[.agg #[.slice none 0 0, .slice none 0 0, .slice none 0 0], .int .i64 (E.pl p), .int .i64 er]))
theorem cv_start (w : World) (x : Option Addr) : CV (w.heap.size + 1) ((((w.alloc (.cells #[.pointer x] 25)).alloc (.cells #[.slice none 0 0, .slice none 0 0, .slice none 0 0] 44)).alloc (.cells #[.int .i64 0] 3)).alloc (.cells #[.int .i64 0] 26)) := by
  refine ⟨?_, ?_, ?_, ?_, ?_, ?_, by simp⟩
  · simp [go_sem]
  · simp [go_sem]
  · simp [go_sem]
  · simp [go_sem]
  · simp [go_sem]
  · intro j k hj
    match j, hj with
    | 0, _ => simp [go_sem]
    | 1, _ => simp [go_sem]
    | 2, _ => simp [go_sem]
theorem four_below (w : World) (a b c d : Obj) : Below w.heap.size w ((((w.alloc a).alloc b).alloc c).alloc d) := ((b2 w a b).trans ((b1 _ c).mono (by simp; omega))).trans ((b1 _ d).mono (by simp; omega))
set_option maxRecDepth 100000 in
set_option maxHeartbeats 1000000 in
theorem ccheck_any (E : CE) (b : Nat) (t : Tree) (w : World) (N : Nd E b t) (hB : Below E.w0.heap.size E.w0 w) (G : Good w) (W : Wt t) (hz : sizeT t ≤ 90000) (hroot : E.pl t.pos = 0) (ho : t.op = 1) :
    Calls Tryz.prog 46 #[.agg #[.pointer (some ⟨b, 0, none⟩)]] w (CQ E w (checkC t)) := by
  have hmf : ∀ (fn : Fn) (first cap : Array Value) (w : World), (Instr.makeFunc fn first cap).run Tryz.prog w = .ok (.func fn first cap) w := fun _ _ _ _ => rfl
  have B0 := Lib.hid (four_below w (.cells #[.pointer (some ⟨b, 0, none⟩)] 25) (.cells #[.slice none 0 0, .slice none 0 0, .slice none 0 0] 44) (.cells #[.int .i64 0] 3) (.cells #[.int .i64 0] 26))
  have V0 := Lib.hid (cv_start w (some ⟨b, 0, none⟩))
  have u0 : ((((w.alloc (.cells #[.pointer (some ⟨b, 0, none⟩)] 25)).alloc (.cells #[.slice none 0 0, .slice none 0 0, .slice none 0 0] 44)).alloc (.cells #[.int .i64 0] 3)).alloc (.cells #[.int .i64 0] 26)).cell? ⟨w.heap.size, 0, none⟩ = some (.pointer (some ⟨b, 0, none⟩)) := by simp [go_sem]
  have ul : w.heap.size < ((((w.alloc (.cells #[.pointer (some ⟨b, 0, none⟩)] 25)).alloc (.cells #[.slice none 0 0, .slice none 0 0, .slice none 0 0] 44)).alloc (.cells #[.int .i64 0] 3)).alloc (.cells #[.int .i64 0] 26)).heap.size := by simp; omega
  have HBE := Lib.hid hB
  have NN := Lib.hid N
  have HG := Lib.hid G
  have HW := Lib.hid W
  obtain ⟨r, hr⟩ : ∃ r, checkC t = r := ⟨_, rfl⟩
  have HR := Lib.hid hr
  rw [hr]
  clear N G W hr
  go_enter_defers Tryz.func46, Tryz.ntmps46
  go_wp2_with fail
  generalize (((w.alloc (.cells #[.pointer (some ⟨b, 0, none⟩)] 25)).alloc (.cells #[.slice none 0 0, .slice none 0 0, .slice none 0 0] 44)).alloc (.cells #[.int .i64 0] 3)).alloc (.cells #[.int .i64 0] 26) = wa at *
  refine (cop_at NN.out HBE.out _ B0.out).mono ?_
  rintro e w1 ⟨rfl, hb⟩
  have u1 := keepC (Below.refl _ _) u0 ul hb
  have V1 := Lib.hid (V0.out.below hb)
  have B1 := Lib.hid (B0.out.trans (hb.mono B0.out.size))
  rw [ho]
  clear hb u0
  go_wp2_with fail
  refine (cprogram_any E b t w1 NN.out (HBE.out.trans (B1.out.mono HBE.out.size)) (HG.out.below B1.out) HW.out hz hroot).mono ?_
  rw [HR.out]
  rintro e w2 ⟨hb, he⟩
  have V2 := V1.out.below hb
  have B2 := Lib.hid (B1.out.trans (hb.mono B1.out.size))
  cases r with
  | bad p er =>
    obtain rfl := he
    have HCf := Lib.hid (ccatch_fault (w.heap.size + 1) (E.pl p) er [] w2 V2)
    have hq : Hid (∀ w3, CatchI (w.heap.size + 1) (E.pl p) er w2 w3 → CQ E w (.bad p er) (.returned (.tuple #[.agg #[.slice none 0 0, .slice none 0 0, .slice none 0 0], .int .i64 (E.pl p), .int .i64 er])) w3) := fun w3 hc => ⟨B2.out.trans (hc.B.mono (Nat.le_succ _)), rfl⟩
    clear V2 hb u1
    unfold cfE
    refine leaves_cons (f := 77) (args := #[.pointer (some ⟨w.heap.size + 1, 0, none⟩), .pointer (some ⟨w.heap.size + 1 + 1, 0, none⟩), .pointer (some ⟨w.heap.size + 1 + 2, 0, none⟩)]) (by simp) (by simp [go_sem]) ?_
    refine HCf.out.mono ?_
    rintro e u' w3 ⟨rfl, rfl, hc⟩
    have hf := hq.out w3 hc
    obtain ⟨-, k0, k1, k2, k3, k4⟩ := hc
    simp [Leaves, settle, results, Tryz.results46, go_sem, k0, k1, k2, k3, k4]
    exact hf
  | ok x =>
    obtain ⟨E', hx, rfl, hI⟩ := he
    have h8 := HG.out.size
    have hsz : w.heap.size + 3 < w1.heap.size := by have := V1.out.lt; omega
    have HF : Hid (CQ E w (.ok x) (.returned (.tuple #[infV E', .int .i64 0, .int .i64 0])) (((((w2.setCell ⟨w.heap.size + 1, 0, none⟩ (.slice E'.sA E'.x.structs.length E'.sc)).setCell ⟨w.heap.size + 1, 1, none⟩ (.slice E'.gA E'.x.globals.length E'.gc)).setCell ⟨w.heap.size + 1, 2, none⟩ (.slice E'.fA E'.x.funs.length E'.fc)).setCell ⟨w.heap.size + 1 + 1, 0, none⟩ (.int .i64 0)).setCell ⟨w.heap.size + 1 + 1 + 1, 0, none⟩ (.int .i64 0))) := ⟨((((B2.out.setCell (p := ⟨w.heap.size + 1, 0, none⟩) (Nat.le_succ _) _).setCell (p := ⟨w.heap.size + 1, 1, none⟩) (Nat.le_succ _) _).setCell (p := ⟨w.heap.size + 1, 2, none⟩) (Nat.le_succ _) _).setCell (p := ⟨w.heap.size + 1 + 1, 0, none⟩) (by show w.heap.size ≤ w.heap.size + 1 + 1; omega) _).setCell (p := ⟨w.heap.size + 1 + 1 + 1, 0, none⟩) (by show w.heap.size ≤ w.heap.size + 1 + 1 + 1; omega) _, E', hx, rfl, (((((hI.set (by omega) (by omega)).set (by omega) (by omega)).set (by omega) (by omega)).set (by omega) (by omega)).set (by omega) (by omega)).lower (by omega)⟩
    obtain ⟨k0, k1, k2, k3, k4, kf, kl⟩ := V2
    have q0 : w2.frozen? ⟨w.heap.size + 1, 0, none⟩ = false := kf 0 0 (by decide)
    have q1 : w2.frozen? ⟨w.heap.size + 1, 1, none⟩ = false := kf 0 1 (by decide)
    have q2 : w2.frozen? ⟨w.heap.size + 1, 2, none⟩ = false := kf 0 2 (by decide)
    have q3 : w2.frozen? ⟨w.heap.size + 1 + 1, 0, none⟩ = false := kf 1 0 (by decide)
    have q4 : w2.frozen? ⟨w.heap.size + 1 + 1 + 1, 0, none⟩ = false := kf 2 0 (by decide)
    have k4 : w2.cell? ⟨w.heap.size + 1 + 1 + 1, 0, none⟩ = some (.int .i64 0) := k4
    unfold infV at HF ⊢
    clear kf hI hb u1 hx
    go_wp2_with fail
    refine leaves_cons (f := 77) (args := #[.pointer (some ⟨w.heap.size + 1, 0, none⟩), .pointer (some ⟨w.heap.size + 1 + 1, 0, none⟩), .pointer (some ⟨w.heap.size + 1 + 1 + 1, 0, none⟩)]) (by simp) (by simp [go_sem]) ?_
    refine (ccatch_idle _ _ _ _).mono ?_
    rintro e u' w4 ⟨rfl, rfl, rfl⟩
    have hfi := HF.out
    simp [Leaves, settle, results, Tryz.results46, go_sem, k0, k1, k2, k3, k4]
    exact hfi
set_option maxRecDepth 100000 in
set_option maxHeartbeats 1000000 in
theorem ccheck_zero (w : World) :
    Calls Tryz.prog 46 #[.agg #[.pointer none]] w fun e w' => e = .returned (.tuple #[.agg #[.slice none 0 0, .slice none 0 0, .slice none 0 0], .int .i64 0, .int .i64 1]) ∧ Below w.heap.size w w' := by
  have hmf : ∀ (fn : Fn) (first cap : Array Value) (w : World), (Instr.makeFunc fn first cap).run Tryz.prog w = .ok (.func fn first cap) w := fun _ _ _ _ => rfl
  have B0 := Lib.hid (four_below w (.cells #[.pointer none] 25) (.cells #[.slice none 0 0, .slice none 0 0, .slice none 0 0] 44) (.cells #[.int .i64 0] 3) (.cells #[.int .i64 0] 26))
  have V0 := Lib.hid (cv_start w none)
  go_enter_defers Tryz.func46, Tryz.ntmps46
  go_wp2_with fail
  generalize (((w.alloc (.cells #[.pointer none] 25)).alloc (.cells #[.slice none 0 0, .slice none 0 0, .slice none 0 0] 44)).alloc (.cells #[.int .i64 0] 3)).alloc (.cells #[.int .i64 0] 26) = wa at *
  refine (op_of wa none 0 ⟨#[]⟩ ⟨#[]⟩ 0 0 none 0 0 (.inr ⟨rfl, rfl, rfl, rfl, rfl, rfl, rfl, rfl, rfl⟩)).mono ?_
  rintro e w1 ⟨rfl, hb⟩
  have V1 := V0.out.below hb
  have B1 := Lib.hid (B0.out.trans (hb.mono B0.out.size))
  have HF : Hid (Below w.heap.size w (((((w1.setCell ⟨w.heap.size + 1, 0, none⟩ (.slice none 0 0)).setCell ⟨w.heap.size + 1, 1, none⟩ (.slice none 0 0)).setCell ⟨w.heap.size + 1, 2, none⟩ (.slice none 0 0)).setCell ⟨w.heap.size + 1 + 1, 0, none⟩ (.int .i64 0)).setCell ⟨w.heap.size + 1 + 1 + 1, 0, none⟩ (.int .i64 1))) := ((((B1.out.setCell (p := ⟨w.heap.size + 1, 0, none⟩) (Nat.le_succ _) _).setCell (p := ⟨w.heap.size + 1, 1, none⟩) (Nat.le_succ _) _).setCell (p := ⟨w.heap.size + 1, 2, none⟩) (Nat.le_succ _) _).setCell (p := ⟨w.heap.size + 1 + 1, 0, none⟩) (by show w.heap.size ≤ w.heap.size + 1 + 1; omega) _).setCell (p := ⟨w.heap.size + 1 + 1 + 1, 0, none⟩) (by show w.heap.size ≤ w.heap.size + 1 + 1 + 1; omega) _
  obtain ⟨k0, k1, k2, k3, k4, kf, kl⟩ := V1
  have q0 : w1.frozen? ⟨w.heap.size + 1, 0, none⟩ = false := kf 0 0 (by decide)
  have q1 : w1.frozen? ⟨w.heap.size + 1, 1, none⟩ = false := kf 0 1 (by decide)
  have q2 : w1.frozen? ⟨w.heap.size + 1, 2, none⟩ = false := kf 0 2 (by decide)
  have q3 : w1.frozen? ⟨w.heap.size + 1 + 1, 0, none⟩ = false := kf 1 0 (by decide)
  have q4 : w1.frozen? ⟨w.heap.size + 1 + 1 + 1, 0, none⟩ = false := kf 2 0 (by decide)
  have k4 : w1.cell? ⟨w.heap.size + 1 + 1 + 1, 0, none⟩ = some (.int .i64 0) := k4
  clear kf hb
  go_wp2_with fail
  refine leaves_cons (f := 77) (args := #[.pointer (some ⟨w.heap.size + 1, 0, none⟩), .pointer (some ⟨w.heap.size + 1 + 1, 0, none⟩), .pointer (some ⟨w.heap.size + 1 + 1 + 1, 0, none⟩)]) (by simp) (by simp [go_sem]) ?_
  refine (ccatch_idle _ _ _ _).mono ?_
  rintro e u' w4 ⟨rfl, rfl, rfl⟩
  have hfi := HF.out
  simp [Leaves, settle, results, Tryz.results46, go_sem, k0, k1, k2, k3, k4]
  exact hfi

end Go.Proofs.YtkahbhfbgdbnfaaGreatDoor

/-
  CONTRACT: Parse at every text of at most 2^48 bytes, where the listed variables lie as the program's text lays them: the tree, in new memory, or the place and the error. Of what was there nothing has turned.
-/
namespace Go.Proofs.YtkahbhfbgdbnfaaGreatDoor
open Go.RowKit

inductive PR
  | ok (ts : List Tok) (ks : List Tree)
  | bad (p e : Nat)
def fuelT (ts : List Tok) : Nat := 4 * ts.length + 1
def treeR (ts : List Tok) (n : Nat) (r : Option (Res (List Tree))) : PR := match r with
  | some (.ok ks _) => .ok ts ks
  | some (.bad j e) => .bad (plf ts n j) e
  | none => .bad 0 0
def parseR (l : List UInt8) : PR := match scanR l with
  | .bad p e => .bad p e
  | .ok ts => treeR ts l.length (P (Tf ts) (fuelT ts) .decls 0 0)
def root (ts : List Tok) (ks : List Tree) : Tree := .mk 1 [] [] 0 (ts.length + 1) ks
def ParseQ (l : List UInt8) (r : PR) (w : World) (e : Ending) (w' : World) : Prop := Below w.heap.size w w' ∧ (match r with
  | .ok ts ks => ∃ b, e = .returned (.tuple #[nodeV b, .int .i64 0, .int .i64 0]) ∧ NodeAt (fun x => w.heap.size ≤ x) (plf ts l.length) w' b (root ts ks)
  | .bad p er => e = .returned (.tuple #[.agg #[.pointer none], .int .i64 p, .int .i64 er]))

def envOf (rb lb cap : Nat) (ts : List Tok) (n : Nat) : Env := ⟨rb, lb, cap, ts.length, Tf ts, plf ts n⟩

theorem cellsT_at (ts : List Tok) : ∀ (k : Nat) (t : Tok), ts[k]? = some t → (cellsT ts)[k * 3]? = some (.int .i64 t.kind) ∧ (cellsT ts)[k * 3 + 1]? = some (.string ⟨t.text.toArray⟩) ∧ (cellsT ts)[k * 3 + 2]? = some (.int .i64 t.place) := by
  induction ts with
  | nil => intro k t h; simp at h
  | cons a r ih =>
    intro k t h
    cases k with
    | zero => obtain rfl := Option.some.inj h; exact ⟨rfl, rfl, rfl⟩
    | succ k =>
      have := ih k t h
      have e : cellsT (a :: r) = [.int .i64 a.kind, .string ⟨a.text.toArray⟩, .int .i64 a.place] ++ cellsT r := rfl
      rw [e]
      refine ⟨?_, ?_, ?_⟩
      · rw [List.getElem?_append_right (by simp; omega), show (k + 1) * 3 - [Value.int .i64 a.kind, .string ⟨a.text.toArray⟩, .int .i64 a.place].length = k * 3 by simp; omega]; exact this.1
      · rw [List.getElem?_append_right (by simp; omega), show (k + 1) * 3 + 1 - [Value.int .i64 a.kind, .string ⟨a.text.toArray⟩, .int .i64 a.place].length = k * 3 + 1 by simp; omega]; exact this.2.1
      · rw [List.getElem?_append_right (by simp; omega), show (k + 1) * 3 + 2 - [Value.int .i64 a.kind, .string ⟨a.text.toArray⟩, .int .i64 a.place].length = k * 3 + 2 by simp; omega]; exact this.2.2

/-- The reader that Parse makes. -/
theorem rd_of {w : World} {base g cap : Nat} {l : List UInt8} {ts : List Tok} (hT : TokS l ts) (G : Good w) (hcap : ts.length + 1 ≤ cap) (hg : g < w.heap.size) (hown : w.ownsRow base 108 3 (.slice (some ⟨g, 0, none⟩) (ts.length + 1) cap) (ts.length + 1) (cellsT (ts ++ [⟨0, [], l.length⟩]))) :
    RD (envOf w.heap.size g cap ts l.length) (w.alloc (.cells #[.slice (some ⟨g, 0, none⟩) (ts.length + 1) cap, .int .i64 0, .int .i64 0] 71)) 0 0 := by
  have hcell : ∀ k, k < (ts.length + 1) * 3 → (w.alloc (.cells #[.slice (some ⟨g, 0, none⟩) (ts.length + 1) cap, .int .i64 0, .int .i64 0] 71)).cell? ⟨g, k, none⟩ = (cellsT (ts ++ [⟨0, [], l.length⟩]))[k]? := fun k hk => by
    rw [World.cell?_alloc_lt w _ ⟨g, k, none⟩ hg]; exact hown.cellAt k hk
  have hat : ∀ k, k ≤ ts.length → ∃ t, (ts ++ [(⟨0, [], l.length⟩ : Tok)])[k]? = some t ∧ Tf ts k = ⟨t.kind, t.text⟩ ∧ plf ts l.length k = t.place := by
    intro k hk
    rcases Nat.lt_or_ge k ts.length with h | h
    · exact ⟨ts[k], by rw [List.getElem?_append_left h, List.getElem?_eq_getElem h], Tf_at (List.getElem?_eq_getElem h), plf_at (List.getElem?_eq_getElem h)⟩
    · have e : k = ts.length := by omega
      subst e
      refine ⟨⟨0, [], l.length⟩, by simp, Tf_end (Nat.le_refl _), ?_⟩
      unfold plf
      rw [List.getElem?_eq_none (Nat.le_refl _)]
      simp
  refine { sent := hT.sent, ne := ?_, cap := hcap, zle := ?_, text := hT.text, ple := ?_, lt := by simp [envOf], llt := by simp [envOf]; omega, c0 := ?_, c1 := ?_, c2 := ?_, fr := ?_, k0 := ?_, k1 := ?_, k2 := ?_, ile := Nat.zero_le _, dle := Nat.zero_le _, good := G.alloc _, rb8 := G.size, nums := hT.nums }
  · show g ≠ w.heap.size; omega
  · show ts.length ≤ 5000; have := hT.len; have := hT.le; omega
  · intro k; show plf ts l.length k ≤ 5000; have := hT.ple k; have := hT.le; omega
  · simp [envOf, go_sem]
  · simp [envOf, go_sem]
  · simp [envOf, go_sem]
  · intro k; simp [envOf, go_sem]
  · intro k hk
    obtain ⟨t, h1, h2, h3⟩ := hat k hk
    show _ = some (Value.int .i64 (Tf ts k).kind)
    rw [h2]
    exact (hcell (k * 3) (by have : k ≤ ts.length := hk; omega)).trans (cellsT_at _ k t h1).1
  · intro k hk
    obtain ⟨t, h1, h2, h3⟩ := hat k hk
    show _ = some (Value.string ⟨(Tf ts k).text.toArray⟩)
    rw [h2]
    exact (hcell (k * 3 + 1) (by have : k ≤ ts.length := hk; omega)).trans (cellsT_at _ k t h1).2.1
  · intro k hk
    obtain ⟨t, h1, h2, h3⟩ := hat k hk
    show _ = some (Value.int .i64 (plf ts l.length k))
    rw [h3]
    exact (hcell (k * 3 + 2) (by have : k ≤ ts.length := hk; omega)).trans (cellsT_at _ k t h1).2.2

def w3s (w : World) : World := ((w.alloc (.cells #[.pointer none] 25)).alloc (.cells #[.int .i64 0] 3)).alloc (.cells #[.int .i64 0] 26)
theorem w3s_below (w : World) : Below w.heap.size w (w3s w) := b3 w _ _ _
theorem w3s_size (w : World) : (w3s w).heap.size = w.heap.size + 3 := by simp [w3s]
/-- The three variables of Parse. -/
structure Vars (w : World) (b : Nat) (x : Option Addr) (y z : Int) : Prop where
  c0 : w.cell? ⟨b, 0, none⟩ = some (.pointer x)
  c1 : w.cell? ⟨b + 1, 0, none⟩ = some (.int .i64 y)
  c2 : w.cell? ⟨b + 2, 0, none⟩ = some (.int .i64 z)
  f0 : w.frozen? ⟨b, 0, none⟩ = false
  f1 : w.frozen? ⟨b + 1, 0, none⟩ = false
  f2 : w.frozen? ⟨b + 2, 0, none⟩ = false
  lt : b + 2 < w.heap.size
theorem w3s_vars (w : World) : Vars (w3s w) w.heap.size none 0 0 := by
  refine ⟨?_, ?_, ?_, ?_, ?_, ?_, by rw [w3s_size]; omega⟩ <;> simp [w3s, go_sem]
theorem Vars.kept {w w' : World} {b rb : Nat} {x : Option Addr} {y z : Int} (h : Vars w b x y z) (hg : w.grownBy w' (some rb)) (h0 : b + 2 < rb) : Vars w' b x y z :=
  ⟨(far hg (by have := h.lt; omega) (by omega) _).trans h.c0, (far hg (by have := h.lt; omega) (by omega) _).trans h.c1, (far hg h.lt (by omega) _).trans h.c2, (farF hg (by have := h.lt; omega) (by omega) _).trans h.f0, (farF hg (by have := h.lt; omega) (by omega) _).trans h.f1, (farF hg h.lt (by omega) _).trans h.f2, Nat.lt_of_lt_of_le h.lt hg.size⟩
theorem Vars.below {w w' : World} {b : Nat} {x : Option Addr} {y z : Int} (h : Vars w b x y z) (hb : Below w.heap.size w w') : Vars w' b x y z := h.kept (rb := b + 3) (kb_below hb) (by omega)

set_option maxRecDepth 100000 in
set_option maxHeartbeats 400000 in
theorem parse_full (s : ByteArray) (r : PR) (w : World) (G : Good w) (hs : s.size ≤ 281474976710656) (hr : Hid (parseR s.data.toList = r)) : Calls Tryz.prog 8 #[.string s] w (ParseQ s.data.toList r w) := by
  have hmf : ∀ (fn : Fn) (first cap : Array Value) (w : World), (Instr.makeFunc fn first cap).run Tryz.prog w = .ok (.func fn first cap) w := fun _ _ _ _ => rfl
  have G3 := Lib.hid (G.below (w3s_below w))
  have B3 := Lib.hid (w3s_below w)
  have V3 := Lib.hid (w3s_vars w)
  unfold w3s at G3 B3 V3
  cases hsc : scanR s.data.toList with
  | bad p er =>
    have HR : Hid (PR.bad p er = r) := by
      have := hr.out; unfold parseR at this; rw [hsc] at this; exact this
    have := HR.out
    subst this
    have HSC := Lib.hid hsc
    clear hsc hr HR G
    go_enter_defers Tryz.func8, Tryz.ntmps8
    go_wp2_with fail
    generalize ((w.alloc (.cells #[.pointer none] 25)).alloc (.cells #[.int .i64 0] 3)).alloc (.cells #[.int .i64 0] 26) = wa at *
    refine (pscan_any s (.bad p er) _ G3.out hs HSC).mono ?_
    rintro e w1 ⟨hb1, rfl⟩
    have V1 := V3.out.below hb1
    have B1 := Lib.hid (B3.out.trans (hb1.mono B3.out.size))
    have hq : Hid (∀ w2, CatchW w.heap.size p er w1 w2 → ParseQ s.data.toList (.bad p er) w (.returned (.tuple #[.agg #[.pointer none], .int .i64 p, .int .i64 er])) w2) := fun w2 hc => ⟨B1.out.trans hc.1, rfl⟩
    have HC := Lib.hid (catch_fault w.heap.size p er none 0 0 [] w1 V1.c0 V1.c1 V1.c2 V1.f0 V1.f1 V1.f2 V1.lt)
    clear V1 hb1 HSC
    unfold faultE
    refine leaves_cons (f := 32) (args := #[.pointer (some ⟨w.heap.size, 0, none⟩), .pointer (some ⟨w.heap.size + 1, 0, none⟩), .pointer (some ⟨w.heap.size + 2, 0, none⟩)]) (by simp) (by simp [go_sem]) ?_
    refine HC.out.mono ?_
    rintro e u' w2 ⟨rfl, rfl, hc⟩
    have hf := hq.out w2 hc
    obtain ⟨hb2, k0, k1, k2⟩ := hc
    simp [Leaves, settle, results, Tryz.results8, go_sem, k0, k1, k2, hf]
  | ok ts =>
    have hT := toks_of hsc
    have HR : Hid (treeR ts s.data.toList.length (P (Tf ts) (fuelT ts) .decls 0 0) = r) := by
      have := hr.out; unfold parseR at this; rw [hsc] at this; exact this
    obtain ⟨rr, hp, -⟩ := P_total hT.sent (fuelT ts) .decls 0 0 trivial (Nat.zero_le _) (by show 4 * (ts.length - 0) + 0 < 4 * ts.length + 1; omega)
    rw [hp] at HR
    have HSC := Lib.hid hsc
    have HP := Lib.hid hp
    have HT := Lib.hid hT
    have HL : Hid (s.size = s.data.toList.length) := (len_size s).symm
    clear hsc hr G hp hT
    go_enter_defers Tryz.func8, Tryz.ntmps8
    go_wp2_with fail
    generalize ((w.alloc (.cells #[.pointer none] 25)).alloc (.cells #[.int .i64 0] 3)).alloc (.cells #[.int .i64 0] 26) = wa at *
    refine (pscan_any s (.ok ts) _ G3.out hs HSC).mono ?_
    rintro e w1 ⟨hb1, g, cap, rfl, hcap, hg1, hg2, hown⟩
    have V1 := V3.out.below hb1
    have G1 := G3.out.below hb1
    have B1 := B3.out.trans (hb1.mono B3.out.size)
    rw [HL.out] at hown
    have hl1 := V1.lt
    have HRD := Lib.hid (rd_of HT.out G1 hcap hg2 hown)
    have V2 := Lib.hid (V1.below (b1 w1 (.cells #[.slice (some ⟨g, 0, none⟩) (ts.length + 1) cap, .int .i64 0, .int .i64 0] 71)))
    have B2 := Lib.hid (B1.trans ((b1 w1 (.cells #[.slice (some ⟨g, 0, none⟩) (ts.length + 1) cap, .int .i64 0, .int .i64 0] 71)).mono B1.size))
    have hl2 : w1.heap.size < (w1.alloc (.cells #[.slice (some ⟨g, 0, none⟩) (ts.length + 1) cap, .int .i64 0, .int .i64 0] 71)).heap.size := by simp
    clear V1 G1 B1 hb1 hown
    go_wp2_with fail
    generalize w1.alloc (.cells #[.slice (some ⟨g, 0, none⟩) (ts.length + 1) cap, .int .i64 0, .int .i64 0] 71) = w2 at *
    have hroot : (envOf w1.heap.size g cap ts s.data.toList.length).pl ((envOf w1.heap.size g cap ts s.data.toList.length).z + 1) = 0 := by
      show plf ts s.data.toList.length (ts.length + 1) = 0
      unfold plf
      rw [List.getElem?_eq_none (by omega)]
      simp
    have HC := Lib.hid (program_any (envOf w1.heap.size g cap ts s.data.toList.length) w2 (fuelT ts) (all_any _ _) rr HRD.out hroot HP)
    clear hroot
    refine HC.out.mono ?_
    clear HC
    cases rr with
    | bad j er =>
      have := HR.out
      subst this
      rintro e w3 ⟨rfl, hg3⟩
      have V3' := V2.out.kept hg3 (show w.heap.size + 2 < w1.heap.size from hl1)
      have B3' : Below w.heap.size w w3 := ⟨hg3.os.trans B2.out.os, hg3.tape.trans B2.out.tape, hg3.output.trans B2.out.output, Nat.le_trans B2.out.size hg3.size, fun k hk => (hg3.block k (by omega) (fun e => by have h9 : k = w1.heap.size := Option.some.inj e; omega)).trans (B2.out.block k hk)⟩
      have hq : Hid (∀ w4, CatchW w.heap.size (plf ts s.data.toList.length j) er w3 w4 → ParseQ s.data.toList (treeR ts s.data.toList.length (some (.bad j er))) w (.returned (.tuple #[.agg #[.pointer none], .int .i64 (plf ts s.data.toList.length j), .int .i64 er])) w4) := fun w4 hc => ⟨B3'.trans hc.1, rfl⟩
      have HC := Lib.hid (catch_fault w.heap.size (plf ts s.data.toList.length j) er none 0 0 [] w3 V3'.c0 V3'.c1 V3'.c2 V3'.f0 V3'.f1 V3'.f2 V3'.lt)
      clear V3' hg3 B3' HSC HP HR
      unfold faultE
      refine leaves_cons (f := 32) (args := #[.pointer (some ⟨w.heap.size, 0, none⟩), .pointer (some ⟨w.heap.size + 1, 0, none⟩), .pointer (some ⟨w.heap.size + 2, 0, none⟩)]) (by simp) (by simp [go_sem]) ?_
      refine HC.out.mono ?_
      rintro e u' w4 ⟨rfl, rfl, hc⟩
      have hf := hq.out w4 hc
      obtain ⟨hb2, k0, k1, k2⟩ := hc
      simp [Leaves, settle, results, Tryz.results8, go_sem, k0, k1, k2]
      exact hf
    | ok ks j =>
      have := HR.out
      subst this
      rintro e w3 ⟨v3, rfl, ⟨nb, hv, hn⟩, hst⟩
      obtain rfl := hv
      unfold nodeV
      have hg3 := hst.2
      have V3' := V2.out.kept hg3 (show w.heap.size + 2 < w1.heap.size from hl1)
      have B3' : Below w.heap.size w w3 := ⟨hg3.os.trans B2.out.os, hg3.tape.trans B2.out.tape, hg3.output.trans B2.out.output, Nat.le_trans B2.out.size hg3.size, fun k hk => (hg3.block k (by omega) (fun e => by have h9 : k = w1.heap.size := Option.some.inj e; omega)).trans (B2.out.block k hk)⟩
      have HN := Lib.hid hn
      have HB3 := Lib.hid B3'
      obtain ⟨c0, c1, c2, f0, f1, f2, lt⟩ := V3'
      clear hst hg3 hn B3' HSC HP HR
      go_wp2_with fail
      have hfin : Hid (ParseQ s.data.toList (treeR ts s.data.toList.length (some (.ok ks j))) w (.returned (.tuple #[.agg #[.pointer (some ⟨nb, 0, none⟩)], .int .i64 0, .int .i64 0])) (((w3.setCell ⟨w.heap.size, 0, none⟩ (.pointer (some ⟨nb, 0, none⟩))).setCell ⟨w.heap.size + 1, 0, none⟩ (.int .i64 0)).setCell ⟨w.heap.size + 2, 0, none⟩ (.int .i64 0))) := by
        refine ⟨((HB3.out.setCell (p := ⟨w.heap.size, 0, none⟩) (Nat.le_refl _) _).setCell (p := ⟨w.heap.size + 1, 0, none⟩) (Nat.le_succ _) _).setCell (p := ⟨w.heap.size + 2, 0, none⟩) (by show w.heap.size ≤ w.heap.size + 2; omega) _, nb, rfl, ?_⟩
        have hn2 : NodeAt (fun x => w.heap.size + 2 < x) (plf ts s.data.toList.length) w3 nb (root ts ks) := HN.out.weak fun x hx _ => by have h9 : w2.heap.size ≤ x := hx; omega
        exact (((hn2.kept (Keeps.set _ ⟨w.heap.size, 0, none⟩ (.pointer (some ⟨nb, 0, none⟩)) (fun h => by have h9 : w.heap.size + 2 < w.heap.size := h; omega))).kept (Keeps.set _ ⟨w.heap.size + 1, 0, none⟩ (.int .i64 0) (fun h => by have h9 : w.heap.size + 2 < w.heap.size + 1 := h; omega))).kept (Keeps.set _ ⟨w.heap.size + 2, 0, none⟩ (.int .i64 0) (fun h => by have h9 : w.heap.size + 2 < w.heap.size + 2 := h; omega))).weak fun x hx _ => by have h9 : w.heap.size + 2 < x := hx; show w.heap.size ≤ x; omega
      refine leaves_cons (f := 32) (args := #[.pointer (some ⟨w.heap.size, 0, none⟩), .pointer (some ⟨w.heap.size + 1, 0, none⟩), .pointer (some ⟨w.heap.size + 2, 0, none⟩)]) (by simp) (by simp [go_sem]) ?_
      refine (catch_idle _ _ _ _).mono ?_
      rintro e u' w4 ⟨rfl, rfl, rfl⟩
      have hfi := hfin.out
      simp [Leaves, settle, results, Tryz.results8, go_sem, c0, c1, c2]
      exact hfi

end Go.Proofs.YtkahbhfbgdbnfaaGreatDoor

/-
  PLAIN: what is read is a tree of the grammar: each node as it should be, no more nodes than tokens. Nothing of the program stands here.
-/
namespace Go.Proofs.YtkahbhfbgdbnfaaGreatDoor
open Go.RowKit

abbrev isE (t : Tree) : Prop := 15 ≤ t.op ∧ t.op ≤ 26
abbrev isS (t : Tree) : Prop := 7 ≤ t.op ∧ t.op ≤ 14
def Ty (W : Tx → Prop) (ty : Tx) : Prop := ty = kInt ∨ ty = kBool ∨ ∃ s, ty = 42 :: s ∧ W s
/-- A node as the grammar has it. -/
inductive Loc (W : Tx → Prop) : Tree → Prop
  | struct {s : Tx} {p : Nat} {ks : List Tree} (h : W s) (hk : ∀ u ∈ ks, Tree.op u = 5) : Loc W (.mk 2 s [] 0 p ks)
  | var {op : Nat} {s ty : Tx} {p : Nat} (ho : op = 3 ∨ op = 5) (h : W s) (ht : Ty W ty) : Loc W (.mk op s ty 0 p [])
  | func {s ty : Tx} {p : Nat} {ks : List Tree} {b : Tree} (h : W s) (ht : ty = [] ∨ Ty W ty) (hk : ∀ u ∈ ks, Tree.op u = 5) (hb : b.op = 6) : Loc W (.mk 4 s ty 0 p (ks ++ [b]))
  | block {p : Nat} {ks : List Tree} (hk : ∀ u ∈ ks, isS u) : Loc W (.mk 6 [] [] 0 p ks)
  | set {op : Nat} {s : Tx} {p : Nat} {x : Tree} (ho : op = 7 ∨ op = 8) (h : W s) (hx : isE x) : Loc W (.mk op s [] 0 p [x])
  | put {s : Tx} {p : Nat} {x y : Tree} (h : W s) (hx : isE x) (hy : isE y) : Loc W (.mk 9 s [] 0 p [x, y])
  | cond {p : Nat} {x b : Tree} (hx : isE x) (hb : b.op = 6) : Loc W (.mk 10 [] [] 0 p [x, b])
  | conde {p : Nat} {x b e : Tree} (hx : isE x) (hb : b.op = 6) (he : e.op = 6 ∨ e.op = 10) : Loc W (.mk 10 [] [] 0 p [x, b, e])
  | loop {p : Nat} {x b : Tree} (hx : isE x) (hb : b.op = 6) : Loc W (.mk 11 [] [] 0 p [x, b])
  | print {p : Nat} {x : Tree} (hx : isE x) : Loc W (.mk 12 [] [] 0 p [x])
  | back0 {p : Nat} : Loc W (.mk 13 [] [] 0 p [])
  | back1 {p : Nat} {x : Tree} (hx : isE x) : Loc W (.mk 13 [] [] 0 p [x])
  | act {p : Nat} {x : Tree} (hx : x.op = 21) : Loc W (.mk 14 [] [] 0 p [x])
  | num {p : Nat} {n : Int} (h0 : 0 ≤ n) (h1 : n ≤ 9223372036854775807) : Loc W (.mk 15 [] [] n p [])
  | truth {p : Nat} {n : Int} (h : n = 0 ∨ n = 1) : Loc W (.mk 16 [] [] n p [])
  | none {p : Nat} : Loc W (.mk 17 [] [] 0 p [])
  | name {op : Nat} {s : Tx} {p : Nat} (ho : op = 18 ∨ op = 19) (h : W s) : Loc W (.mk op s [] 0 p [])
  | field {s : Tx} {p : Nat} {x : Tree} (h : W s) (hx : isE x) : Loc W (.mk 20 s [] 0 p [x])
  | call {s : Tx} {p : Nat} {ks : List Tree} (h : W s) (hk : ∀ u ∈ ks, isE u) : Loc W (.mk 21 s [] 0 p ks)
  | input {p : Nat} : Loc W (.mk 22 [] [] 0 p [])
  | unary {n : Int} {p : Nat} {x : Tree} (hn : n = 17 ∨ n = 18) (hx : isE x) : Loc W (.mk 23 [] [] n p [x])
  | binary {op : Nat} {n : Int} {p : Nat} {x y : Tree} (ho : op = 24 ∧ 1 ≤ n ∧ n ≤ 16 ∨ (op = 25 ∨ op = 26) ∧ n = 0) (hx : isE x) (hy : isE y) : Loc W (.mk op [] [] n p [x, y])
inductive Al (W : Tx → Prop) : Tree → Prop
  | mk {op : Nat} {s ty : Tx} {n : Int} {p : Nat} {ks : List Tree} (h : Loc W (.mk op s ty n p ks)) (hk : ∀ u ∈ ks, Al W u) : Al W (.mk op s ty n p ks)

theorem Al.ok {W : Tx → Prop} {t : Tree} (h : Al W t) : OkT t := by
  induction h with
  | @mk op s ty n p ks h hk ih =>
    have hkk : ∀ (k : Nat) (u : Tree), ks[k]? = some u → OkT u := fun k u hu => ih u (List.mem_of_getElem? hu)
    cases h with
    | var ho => rcases ho with rfl | rfl <;> exact .mk (by omega) (fun h => by omega) (fun h => by omega) (by decide) hkk
    | func h ht hp hb => exact .mk (by omega) (fun h => by omega) (fun h => by omega) (by simp [arity]) hkk
    | set ho => rcases ho with rfl | rfl <;> exact .mk (by omega) (fun h => by omega) (fun h => by omega) (by simp [arity]) hkk
    | cond hx hb => exact .mk (by omega) (fun _ => ⟨_, rfl, hb⟩) (fun h => by omega) (by simp [arity]) hkk
    | conde hx hb => exact .mk (by omega) (fun _ => ⟨_, rfl, hb⟩) (fun h => by omega) (by simp [arity]) hkk
    | loop hx hb => exact .mk (by omega) (fun _ => ⟨_, rfl, hb⟩) (fun h => by omega) (by simp [arity]) hkk
    | num h0 h1 => exact .mk (by omega) (fun h => by omega) (fun _ => ⟨h0, h1⟩) (by simp [arity]) hkk
    | name ho => rcases ho with rfl | rfl <;> exact .mk (by omega) (fun h => by omega) (fun h => by omega) (by simp [arity]) hkk
    | binary ho =>
      obtain ho | ho := ho
      · obtain ⟨rfl, -⟩ := ho; exact .mk (by omega) (fun h => by omega) (fun h => by omega) (by simp [arity]) hkk
      · obtain ⟨rfl | rfl, -⟩ := ho <;> exact .mk (by omega) (fun h => by omega) (fun h => by omega) (by simp [arity]) hkk
    | _ => exact .mk (by omega) (fun h => by omega) (fun h => by omega) (by simp [arity]) hkk

/-- Every good answer meets Φ. -/
def Lf {α : Type} (T : Nat → AT) (c : Callee) (Φ : α → Nat → Prop) (p : Pr α) (i : Nat) : Prop := ∀ a j, runW T c p i = some (.ok a j) → Φ a j
section
variable {T : Nat → AT} {c : Callee} {α β : Type} {Φ : α → Nat → Prop} {i : Nat}
theorem lf_ret {a : α} (h : Φ a i) : Lf T c Φ (.ret a) i := fun b j e => by cases e; exact h
theorem lf_fail {e : Nat} : Lf T c Φ (.fail e) i := fun b j e => by cases e
theorem lf_peek {k : Nat → AT → Pr α} (h : Lf T c Φ (k i (T i)) i) : Lf T c Φ (.peek k) i := h
theorem lf_next {p : Pr α} (h : Lf T c Φ p (i + 1)) : Lf T c Φ (.next p) i := h
theorem lf_ite {q : Prop} [Decidable q] {p r : Pr α} (h : q → Lf T c Φ p i) (g : ¬ q → Lf T c Φ r i) : Lf T c Φ (if q then p else r) i := by
  split
  · exact h ‹_›
  · exact g ‹_›
theorem lf_bind {Ψ : β → Nat → Prop} {p : Pr β} {f : β → Pr α} (h : Lf T c Ψ p i) (g : ∀ a j, Ψ a j → Lf T c Φ (f a) j) : Lf T c Φ (p.bind f) i := fun b j e => by
  rw [runW_bind] at e
  cases hr : runW T c p i with
  | none => rw [hr] at e; cases e
  | some r =>
    rw [hr] at e
    cases r with
    | bad => cases e
    | ok a k => exact g a k (h a k hr) b j e
theorem lf_call {nt : NT} {d : Nat} {k : List Tree → Pr α} (h : ∀ ts j, c nt d i = some (.ok ts j) → Lf T c Φ (k ts) j) : Lf T c Φ (.call nt d k) i := fun b j e => by
  simp only [runW] at e
  cases hr : c nt d i with
  | none => rw [hr] at e; cases e
  | some r =>
    rw [hr] at e
    cases r with
    | bad => cases e
    | ok ts k' => exact h ts k' hr b j e
theorem Lf.imp {Ψ : α → Nat → Prop} {p : Pr α} (h : Lf T c Φ p i) (g : ∀ a j, Φ a j → Ψ a j) : Lf T c Ψ p i := fun a j e => g a j (h a j e)
theorem lf_need {s : Tx} : Lf T c (fun a j => a = i ∧ j = i + 1) (need s) i := lf_peek (lf_ite (fun _ => lf_next (lf_ret ⟨rfl, rfl⟩)) fun _ => lf_fail)
theorem lf_word : Lf T c (fun a j => a = (i, (T i).text) ∧ (T i).kind = 1 ∧ j = i + 1) word i := lf_peek (lf_ite (fun h => lf_next (lf_ret ⟨rfl, h, rfl⟩)) fun _ => lf_fail)
theorem lf_enter {d : Nat} {s : Tx} : Lf T c (fun a j => a = i ∧ j = i + 1) (enter d s) i := lf_peek (lf_ite (fun _ => lf_ite (fun _ => lf_fail) fun _ => lf_next (lf_ret ⟨rfl, rfl⟩)) fun _ => lf_fail)
end

end Go.Proofs.YtkahbhfbgdbnfaaGreatDoor
