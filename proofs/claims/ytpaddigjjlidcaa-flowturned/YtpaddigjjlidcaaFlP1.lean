/-
  CONTRACTS: flow's has and named: whether a number is a block; what the end of a block names. Of what was there nothing has turned.
-/
import Derived.Test.YtpaddigjjlidcaaFlC
namespace Go.Proofs.Ytpaddigjjlidcaa
open Go.RowKit

def hasB (n : Nat) (i : Int) : Bool := decide (0 ≤ i) && decide (i < n)
set_option maxRecDepth 100000 in
set_option maxHeartbeats 1000000 in
theorem has_any (E : FE) (n : Int) (w : World) (hM : FM E w) (hn : I64 n) :
    Calls Try.prog 22 #[E.v, .int .i64 n] w fun e w' => e = .returned (.bool (hasB E.f.blocks.length n)) ∧ Below w.heap.size w w' := by
  have c5 : (w.alloc (.cells E.row 26)).cell? ⟨w.heap.size, 5, none⟩ = some (.slice E.bA E.f.blocks.length E.bc) := cell_new w E.row 26 5
  have HB := Lib.hid (below_alloc w (.cells E.row 26))
  have hbl := hM.bl
  clear hM
  unfold hasB FE.v
  generalize E.f.blocks.length = m at *
  obtain ⟨q0, hq0⟩ : ∃ b, decide (0 ≤ n) = b := ⟨_, rfl⟩
  cases q0 with
  | false =>
    have hn0 : n < 0 := by simpa using hq0
    rw [hq0]
    go_enter Try.func22, Try.ntmps22
    go_wp2_with fail
    go_ret
    exact ⟨rfl, HB.out⟩
  | true =>
    have hn0 : 0 ≤ n := by simpa using hq0
    rw [hq0]
    go_enter Try.func22, Try.ntmps22
    go_wp2_with fail
    go_ret
    exact ⟨rfl, HB.out⟩
end Go.Proofs.Ytpaddigjjlidcaa
