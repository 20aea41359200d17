/-
  CONTRACT: the statements' own 'two'. Of what was there nothing has turned.
-/
import Derived.Test.YtpjfooghiclccaaDoorReach
import Derived.Test.YtpjfooghiclccaaDoorCheck
import Derived.Test.YtpjfooghiclccaaDoorGreat
import Derived.Test.YtpjfooghiclccaaDoorSame
namespace Go.Proofs.YtpjfooghiclccaaDoor
open Go.RowKit

def twoL : List Str := [⟨⟨#[84]⟩, [⟨⟨#[110]⟩, ⟨#[105, 110, 116]⟩⟩, ⟨⟨#[117]⟩, ⟨#[42, 85]⟩⟩]⟩, ⟨⟨#[85]⟩, [⟨⟨#[116]⟩, ⟨#[42, 84]⟩⟩]⟩, ⟨⟨#[86]⟩, []⟩]

theorem cells3 (w : World) (A B C : Array Value) (t e f : TypeId) (j : Nat) :
    (((w.alloc (.cells A t)).alloc (.cells B e)).alloc (.cells C f)).cell? ⟨w.heap.size, j, none⟩ = A[j]? ∧ (((w.alloc (.cells A t)).alloc (.cells B e)).alloc (.cells C f)).cell? ⟨w.heap.size + 1, j, none⟩ = B[j]? ∧
    (((w.alloc (.cells A t)).alloc (.cells B e)).alloc (.cells C f)).cell? ⟨w.heap.size + 1 + 1, j, none⟩ = C[j]? := by
  refine ⟨?_, ?_, ?_⟩
  · rw [World.cell?_alloc_lt _ _ ⟨w.heap.size, j, none⟩ (by simp; omega), World.cell?_alloc_lt _ _ ⟨w.heap.size, j, none⟩ (by simp), cell_new]
  · rw [World.cell?_alloc_lt _ _ ⟨w.heap.size + 1, j, none⟩ (by simp), cell_second]
  · have h := cell_new ((w.alloc (.cells A t)).alloc (.cells B e)) C f j
    rw [show ((w.alloc (.cells A t)).alloc (.cells B e)).heap.size = w.heap.size + 1 + 1 by simp] at h
    exact h
def oA : Array Value := #[.string ⟨#[110]⟩, .string ⟨#[105, 110, 116]⟩, .string ⟨#[117]⟩, .string ⟨#[42, 85]⟩]
def oB : Array Value := #[.string ⟨#[116]⟩, .string ⟨#[42, 84]⟩]
def oC (n : Nat) : Array Value := #[.string ⟨#[84]⟩, .slice (some ⟨n, 0, none⟩) 2 2, .string ⟨#[85]⟩, .slice (some ⟨n + 1, 0, none⟩) 1 1, .string ⟨#[86]⟩, .slice none 0 0]
def twoW (w : World) : World := ((w.alloc (.cells oA 48)).alloc (.cells oB 48)).alloc (.cells (oC w.heap.size) 43)
theorem twoW_size (w : World) : (twoW w).heap.size = w.heap.size + 3 := by unfold twoW; simp
theorem two_sr (w : World) : SR (twoW w) (some ⟨w.heap.size + 1 + 1, 0, none⟩) twoL := by
  have k := fun j => cells3 w oA oB (oC w.heap.size) 48 48 43 j
  change ∀ j, (twoW w).cell? _ = _ ∧ (twoW w).cell? _ = _ ∧ (twoW w).cell? _ = _ at k
  have hz := twoW_size w
  generalize twoW w = W at k hz ⊢
  have fA : FR W (some ⟨w.heap.size, 0, none⟩) [⟨⟨#[110]⟩, ⟨#[105, 110, 116]⟩⟩, ⟨⟨#[117]⟩, ⟨#[42, 85]⟩⟩] := by
    refine fun _ => ⟨w.heap.size, 0, rfl, by omega, fun i f hf => ?_⟩
    rcases i with _ | _ | i
    · obtain rfl := (Option.some.inj hf).symm
      exact ⟨(k 0).1, (k 1).1⟩
    · obtain rfl := (Option.some.inj hf).symm
      exact ⟨(k 2).1, (k 3).1⟩
    · simp at hf
  have fB : FR W (some ⟨w.heap.size + 1, 0, none⟩) [⟨⟨#[116]⟩, ⟨#[42, 84]⟩⟩] := by
    refine fun _ => ⟨w.heap.size + 1, 0, rfl, by omega, fun i f hf => ?_⟩
    rcases i with _ | i
    · obtain rfl := (Option.some.inj hf).symm
      exact ⟨(k 0).2.1, (k 1).2.1⟩
    · simp at hf
  refine fun _ => ⟨w.heap.size + 1 + 1, 0, rfl, by omega, fun i s hs => ?_⟩
  rcases i with _ | _ | _ | i
  · obtain rfl := (Option.some.inj hs).symm
    exact ⟨_, 2, (k 0).2.2, (k 1).2.2, by decide, by decide, fA⟩
  · obtain rfl := (Option.some.inj hs).symm
    exact ⟨_, 1, (k 2).2.2, (k 3).2.2, by decide, by decide, fB⟩
  · obtain rfl := (Option.some.inj hs).symm
    exact ⟨none, 0, (k 4).2.2, (k 5).2.2, by decide, by decide, fun h => absurd h (by decide)⟩
  · simp [twoL] at hs
def TwoQ (w : World) (e : Ending) (w' : World) : Prop := ∃ g, e = .returned (.slice (some ⟨g, 0, none⟩) 3 3) ∧ g < w'.heap.size ∧ SR w' (some ⟨g, 0, none⟩) twoL ∧ Below w.heap.size w w'

set_option maxHeartbeats 400000 in
theorem two_any (w : World) : Calls Tryd.prog 25 #[] w (TwoQ w) := by
  go_enter Tryd.func25, Tryd.ntmps25
  go_wp2_with fail
  go_ret
  refine ⟨w.heap.size + 1 + 1, rfl, by simp, two_sr w, (((Below.refl _ _).alloc (Nat.le_refl _) _).alloc (by simp) _).alloc (by simp; omega) _⟩

end Go.Proofs.YtpjfooghiclccaaDoor
