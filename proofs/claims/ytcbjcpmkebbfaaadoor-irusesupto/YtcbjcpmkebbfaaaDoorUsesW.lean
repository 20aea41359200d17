/-
  WALK: IrUses answers true at every function and place whose texts are short, where the listed tables lie as they are laid.
-/
import Derived.Test.YtcbjcpmkebbfaaaDoorOpen
import Derived.Test.YtcbjcpmkebbfaaaDoorUses
namespace Go.Proofs.YtcbjcpmkebbfaaaDoor
open Go.RowKit

theorem irUses_all (E : FE) (n : Int) (w : World) (hM : FM E w) (hT : TxN E.f) (hn : I64 n) (hG : Gd w) :
    Calls Tryd.prog 4 #[E.v, .int .i64 n] w fun e w' => e = .returned (.bool true) ∧ Below w.heap.size w w' :=
  irUses_true Gd E n ⟨fun h b => h.drop b, awake_true, fun hw w' hM' _ => uses_any E n w' hM' hn (by have := (wide_lens hw).2.2.1; omega), fun hw w' hM' g => lineOf_any E n w' hM' hn g (bdx_of hT hw)⟩ w hM hn hG

end Go.Proofs.YtcbjcpmkebbfaaaDoor
