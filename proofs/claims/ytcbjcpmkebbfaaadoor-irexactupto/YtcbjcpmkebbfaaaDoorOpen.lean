/-
  FROM A ROW's ARGUMENTS, of bulk at most 1048576: a function, a program is read; its texts are short. No condition.
-/
import Derived.Test.YtcbjcpmkebbfaaaDoorSlB
import Derived.Test.YtcbjcpmkebbfaaaDoorLaid
import Derived.Carry
import Derived.SizedLaws
namespace Go.Proofs.YtcbjcpmkebbfaaaDoor
open Go.ChangeShapes Go.WideShapes Go.ChangeAt Go.RowKit Go.Deep

theorem le_sum {l : List Nat} {n : Nat} (h : n ∈ l) : n ≤ l.sum := by
  induction l with
  | nil => cases h
  | cons x r ih =>
    rw [List.sum_cons]
    rcases List.mem_cons.1 h with e | e
    · subst e; omega
    · have := ih e; omega
set_option maxRecDepth 100000
section
variable {H : Type} {enc : TypeId × Value → H} {W : World}
theorem o3 : OpensB enc Tryd.prog W 3 intR (fun _ => True) := opensB_int Tryd.underlying3
theorem o9 : OpensB enc Tryd.prog W 9 strR Tx := opensB_str Tryd.underlying9
theorem o42 : OpensB enc Tryd.prog W 42 (slC 1 intR) (fun l => ∀ x ∈ l, (fun _ => True) x) := opensB_sl (k := 8) Tryd.underlying42 (by kernel_rfl) (by kernel_rfl) (by omega) (by omega) (fun cs a h => by rw [h.1]; rfl) o3
theorem o31 : OpensB enc Tryd.prog W 31 (slC 1 strR) (fun l => ∀ x ∈ l, Tx x) := by
  haveI : Inhabited ByteArray := ⟨⟨#[]⟩⟩
  exact opensB_sl (k := 16) Tryd.underlying31 (by kernel_rfl) (by kernel_rfl) (by omega) (by omega) (fun cs a h => by rw [h.1]; rfl) o9
theorem o51 : OpensB enc Tryd.prog W 51 prR (fun _ => True) := opensB_pr Tryd.underlying51 Tryd.underlying3 (by kernel_rfl) (by kernel_rfl)
theorem o47 : OpensB enc Tryd.prog W 47 insR TxI := opensB_ins Tryd.underlying47 (by kernel_rfl) ⟨rfl, rfl, rfl, rfl, rfl⟩ ⟨by kernel_rfl, by kernel_rfl, by kernel_rfl, by kernel_rfl, by kernel_rfl⟩ o3 o9 o42 o3 o9
theorem o53 : OpensB enc Tryd.prog W 53 blkR (fun _ => True) := opensB_blk Tryd.underlying53 (by kernel_rfl) ⟨rfl, rfl, rfl, rfl⟩ ⟨by kernel_rfl, by kernel_rfl, by kernel_rfl, by kernel_rfl⟩ o42 o3 o3 o51
theorem o37 : OpensB enc Tryd.prog W 37 (slC 5 insR) (fun l => ∀ x ∈ l, TxI x) := by
  haveI : Inhabited Ins := ⟨⟨0, ⟨#[]⟩, [], 0, ⟨#[]⟩⟩⟩
  exact opensB_sl (k := 72) Tryd.underlying37 (by kernel_rfl) (by kernel_rfl) (by omega) (by omega) (fun cs a h => by obtain ⟨v, rfl, -⟩ := h; rfl) o47
theorem o38 : OpensB enc Tryd.prog W 38 (slC 5 blkR) (fun l => ∀ x ∈ l, (fun _ => True) x) := by
  haveI : Inhabited Blk := ⟨⟨[], 0, 0, 0, 0⟩⟩
  exact opensB_sl (k := 56) Tryd.underlying38 (by kernel_rfl) (by kernel_rfl) (by omega) (by omega) (fun cs a h => by obtain ⟨v, rfl, -⟩ := h; rfl) o53
theorem o40 : OpensB enc Tryd.prog W 40 fnR TxN := opensB_fn Tryd.underlying40 (by kernel_rfl) ⟨rfl, rfl, rfl, rfl, rfl, rfl⟩ ⟨by kernel_rfl, by kernel_rfl, by kernel_rfl, by kernel_rfl, by kernel_rfl, by kernel_rfl⟩ o9 o31 o9 o31 o37 o38
theorem o62 : OpensB enc Tryd.prog W 62 fdR BdF := opensB_fd Tryd.underlying62 (by kernel_rfl) ⟨rfl, rfl⟩ ⟨by kernel_rfl, by kernel_rfl⟩ o9 o9
theorem o23 : OpensB enc Tryd.prog W 23 (slC 2 fdR) (fun l => ∀ x ∈ l, BdF x) := by
  haveI : Inhabited Fd := ⟨⟨⟨#[]⟩, ⟨#[]⟩⟩⟩
  exact opensB_sl (k := 32) Tryd.underlying23 (by kernel_rfl) (by kernel_rfl) (by omega) (by omega) (fun cs a h => by rw [h.1]; rfl) o62
theorem o58 : OpensB enc Tryd.prog W 58 stR TxS := opensB_st Tryd.underlying58 (by kernel_rfl) ⟨rfl, rfl⟩ ⟨by kernel_rfl, by kernel_rfl⟩ o9 o23
theorem o22 : OpensB enc Tryd.prog W 22 (slC 2 stR) (fun l => ∀ x ∈ l, TxS x) := by
  haveI : Inhabited St := ⟨⟨⟨#[]⟩, []⟩⟩
  exact opensB_sl (k := 40) Tryd.underlying22 (by kernel_rfl) (by kernel_rfl) (by omega) (by omega) (fun cs a h => by obtain ⟨v, rfl, -⟩ := h; rfl) o58
theorem o24 : OpensB enc Tryd.prog W 24 (slC 6 fnR) (fun l => ∀ x ∈ l, TxN x) := by
  haveI : Inhabited Fn := ⟨⟨⟨#[]⟩, [], ⟨#[]⟩, [], [], []⟩⟩
  exact opensB_sl (k := 128) Tryd.underlying24 (by kernel_rfl) (by kernel_rfl) (by omega) (by omega) (fun cs a h => by obtain ⟨p, s, i, b, rfl, -⟩ := h; rfl) o40
theorem o26 : OpensB enc Tryd.prog W 26 pgR TxP := opensB_pg Tryd.underlying26 (by kernel_rfl) ⟨rfl, rfl, rfl⟩ ⟨by kernel_rfl, by kernel_rfl, by kernel_rfl⟩ o22 o23 o24
/-- A function that is handed in. -/
theorem open_fun {base : Nat} {v : Value} {d : DataW H} {p : List MemPlace} (hval : Value.okWide Tryd.prog W .any base 40 v) (h : DataW.Trod enc Tryd.prog W 0 (fun _ => true) true 40 v d p) (hw : ∀ n ∈ d.weights Tryd.prog 40, n ≤ reachBytes) (hb : Rows.uptoBulk d ≤ 1048576) : ∃ E : FE, v = E.v ∧ FM E W ∧ TxN E.f := by
  obtain ⟨cs, rfl, -⟩ := okWide_struct Tryd.underlying40 hval
  obtain ⟨fuel, hf⟩ := h
  obtain ⟨f, hr, ht⟩ := o40 fuel _ _ hf hw hb
  obtain ⟨E, rfl, hc, hM⟩ := fe_of hr
  have hc : cs.toList = E.row.toList := hc
  exact ⟨E, by unfold FE.v; rw [Array.toList_inj.1 hc], hM, ht⟩
/-- A program that is handed in. -/
theorem open_pg {base : Nat} {v : Value} {d : DataW H} {p : List MemPlace} (hval : Value.okWide Tryd.prog W .any base 26 v) (h : DataW.Trod enc Tryd.prog W 0 (fun _ => true) true 26 v d p) (hw : ∀ n ∈ d.weights Tryd.prog 26, n ≤ reachBytes) (hb : Rows.uptoBulk d ≤ 1048576) : ∃ E : PE, v = E.v ∧ PM E W ∧ TxP E.p := by
  obtain ⟨cs, rfl, -⟩ := okWide_struct Tryd.underlying26 hval
  obtain ⟨fuel, hf⟩ := h
  obtain ⟨f, hr, ht⟩ := o26 fuel _ _ hf hw hb
  obtain ⟨E, rfl, hc, hM⟩ := pe_of hr
  have hc : cs.toList = E.row.toList := hc
  exact ⟨E, by unfold PE.v; rw [Array.toList_inj.1 hc], hM, ht⟩
end
theorem weights_at {H : Type} {ts : List TypeId} {ds : List (DataW H)} (h : (DataW.weightsEach Tryd.prog ts ds).all (· ≤ reachBytes) = true) {j : Nat} {t : TypeId} {d : DataW H} (ht : ts[j]? = some t) (hd : ds[j]? = some d) :
    ∀ n ∈ d.weights Tryd.prog t, n ≤ reachBytes := fun n hn => by
  have := List.all_eq_true.1 h _ (DataW.weights_mem_each ht hd n hn)
  simpa using this
theorem bulk_at {H : Type} {ds gs : List (DataW H)} (h : Rows.uptoSmall H (ds ++ gs) = true) {j : Nat} {d : DataW H} (hd : ds[j]? = some d) : Rows.uptoBulk d ≤ 1048576 := by
  have h1 : Rows.uptoBulkAll (ds ++ gs) ≤ 1048576 := of_decide_eq_true h
  exact Nat.le_trans (bulk_in (List.mem_append_left _ (List.mem_of_getElem? hd))) h1

/-! What the statements' limits give beside. -/
theorem bdx_of {f : Fn} (h : TxN f) (hw : wideB f = false) : ∀ x ∈ f.ins, BdX x := fun x hx => by
  unfold wideB at hw
  rw [Bool.or_eq_false_iff, decide_eq_false_iff_not] at hw
  have h1 : sumB f ≤ 1500 := Nat.not_lt.1 hw.2
  have h2 : x.args.length ≤ sumTo Ins.args f.ins f.ins.length := by
    unfold sumTo
    rw [List.take_of_length_le (Nat.le_refl _)]
    exact le_sum (List.mem_map.2 ⟨x, hx, rfl⟩)
  have h3 := h.i x hx
  unfold sumB at h1
  exact ⟨h3.t, h3.n, by omega⟩
theorem wide_lens {f : Fn} (hw : wideB f = false) : f.params.length ≤ 10 ∧ f.slots.length ≤ 100 ∧ f.ins.length ≤ 300 ∧ f.blocks.length ≤ 60 ∧ sumB f ≤ 1500 := by
  unfold wideB overB at hw
  simp only [Bool.or_eq_false_iff, decide_eq_false_iff_not] at hw
  omega
theorem blk_of {f : Fn} (hw : wideB f = false) : ∀ x ∈ f.blocks, x.list.length ≤ 2048 := fun x hx => by
  have h1 := (wide_lens hw).2.2.2.2
  have h2 : x.list.length ≤ sumTo Blk.list f.blocks f.blocks.length := by
    unfold sumTo
    rw [List.take_of_length_le (Nat.le_refl _)]
    exact le_sum (List.mem_map.2 ⟨x, hx, rfl⟩)
  unfold sumB at h1
  omega
theorem bdn_of {f : Fn} (h : TxN f) (hw : wideB f = false) : BdN f := by
  obtain ⟨h1, h2, h3, h4, h5⟩ := wide_lens hw
  exact ⟨⟨h.n, h.r, by omega, h.p⟩, by omega, h.s, bdx_of h hw, by omega, blk_of hw⟩
theorem bdp_of {p : Pg} (h : TxP p) (hg : greatB p = false) : BdP p := by
  obtain ⟨h1, h2, h3, h4, h5⟩ := great_no hg
  exact ⟨by omega, by omega, by omega, fun x hx => ⟨(h.s x hx).n, by have := h4 x hx; omega, (h.s x hx).f⟩, h.g, fun f hf => bdn_of (h.f f hf) (h5 f hf)⟩
theorem smp_of {p : Pg} (hg : greatB p = false) : SmP p := by
  obtain ⟨h1, h2, h3, h4, h5⟩ := great_no hg
  refine ⟨by omega, by omega, by omega, fun x hx => by have := h4 x hx; omega, fun f hf => ?_⟩
  obtain ⟨q1, q2, q3, q4, q5⟩ := wide_lens (h5 f hf)
  refine ⟨by omega, by omega, by omega, by omega, fun x hx => ?_, fun x hx => by have := blk_of (h5 f hf) x hx; omega⟩
  have h2 : x.args.length ≤ sumTo Ins.args f.ins f.ins.length := by
    unfold sumTo
    rw [List.take_of_length_le (Nat.le_refl _)]
    exact le_sum (List.mem_map.2 ⟨x, hx, rfl⟩)
  unfold sumB at q5
  omega

end Go.Proofs.YtcbjcpmkebbfaaaDoor
