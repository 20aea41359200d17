/-
  A SLICE OF STRUCTS THAT IS READ AND HAS NO ADDRESS HAS NO ROOM. No condition.
-/
import Derived.Test.YtpjfooghiclccaaDoorLaid
namespace Go.Proofs.YtpjfooghiclccaaDoor
open Go.RowKit

theorem nil_cap {H : Type} {enc : TypeId × Value → H} {W : World} {A : Option Addr} {n c : Nat} {d : DataW H} {p : List MemPlace} (h : DataW.Trod enc Tryd.prog W 0 (fun _ => true) true 22 (.slice A n c) d p) : Hid (A = none → c = 0) := by
  rintro rfl
  obtain ⟨fuel, hf⟩ := h
  rcases Go.Deep.open_slice Tryd.underlying22 hf with ⟨e, _⟩ | ⟨a, len, cap, m, q, D, Pl, e, _⟩
  · have e' : [Value.slice none n c] = [.slice none 0 0] := by simpa [Value.cells] using e
    injection e' with e1 _
    injection e1
  · simp [Value.cells] at e

end Go.Proofs.YtpjfooghiclccaaDoor
