/-
  FROM A ROW's LIST OF VARIABLES TO THE CONTRACTS' CONDITION: what the listed package-level variables hold ('Good', 'PowIn'); the witness' world.
-/
import Derived.Test.YtfbejfoalnhihaaGreatDoorCards
import Derived.Test.YtfbejfoalnhihaaGreatDoorTie
import Derived.Test.YtfbejfoalnhihaaGreatDoorJ2
import Derived.WalkKit
import Derived.ProofKit
import Derived.OpenShut
import Derived.LaidMore
import Derived.Deep.DeepHandedRow
import Derived.Deep.DeepWitnessRowRef
import Derived.Lib.LaidTab
import Derived.Stop.LaidErr
import Derived.Test.YtfbejfoalnhihaaGreatDoorJ6
import Derived.Test.YtfbejfoalnhihaaGreatDoorJ8
namespace Go.Proofs.YtfbejfoalnhihaaGreatDoor
open Go.ChangeShapes Go.WideShapes Go.ChangeAt Go.RowKit

theorem own : ownKnob Tryz.prog.godebug = none := by kernel_rfl
theorem gKeys : Tryz.prog.globalNamed "truant/lex.keys" = some 1 := by kernel_rfl
theorem gLongs : Tryz.prog.globalNamed "truant/lex.longSigns" = some 0 := by kernel_rfl
theorem gSigns : Tryz.prog.globalNamed "truant/num.signs" = some 2 := by kernel_rfl
theorem tKeys : (Tryz.prog.globals[1]?).map (·.type) = some 103 := by kernel_rfl
theorem tLongs : (Tryz.prog.globals[0]?).map (·.type) = some 110 := by kernel_rfl
theorem tSigns : (Tryz.prog.globals[2]?).map (·.type) = some 91 := by kernel_rfl
theorem tRange : (Tryz.prog.globals[5]?).map (·.type) = some 99 := by kernel_rfl
theorem tPow : (Tryz.prog.globals[6]?).map (·.type) = some 154 := by kernel_rfl
theorem cells9 : Tryz.prog.cellsOf 9 = 1 := by kernel_rfl
theorem cells91 : Tryz.prog.cellsOf 91 = 19 := by kernel_rfl
theorem cells103 : Tryz.prog.cellsOf 103 = 16 := by kernel_rfl
theorem cells104 : Tryz.prog.cellsOf 104 = 1 := by kernel_rfl
theorem cells110 : Tryz.prog.cellsOf 110 = 9 := by kernel_rfl
theorem cells151 : Tryz.prog.cellsOf 151 = 1 := by kernel_rfl
theorem cells154 : Tryz.prog.cellsOf 154 = 20 := by kernel_rfl
theorem row149 (u : TypeId) (h : Tryz.prog.typeName? 3 u = some "*errors.errorString") : u = 149 :=
  typeName_ptr_named (nm := "errors.errorString") (by kernel_rfl) (by kernel_rfl) (by decide) u h

/-- An array of strings that is listed holds just these strings. -/
theorem tabs_of_laid {P : Program} {W : World} {name : String} {ls : List (List UInt8)} {rest : List (String × DataW Unit)} {g n : Nat} {t e : TypeId}
    (hg : P.globalNamed name = some g) (hty : (P.globals[g]?).map (·.type) = some t) (ht : P.underlying t = some (.array n e)) (he : P.underlying e = some .string) (hce : P.cellsOf e = 1) (hct : P.cellsOf t = n)
    (h : laidMet P ((name, .agg (ls.map fun l => .lit (.string l))) :: rest) W) : ∃ t fr, W.heap[g]? = some (.cells (tabOf ls) t fr) := by
  obtain ⟨ps, ⟨g0, t0, cs0, f0, p0, q0, hg0, ht0, hv0, hd0, _, _⟩, _, _⟩ := h
  obtain rfl := Option.some.inj (hg.symm.trans hg0)
  obtain rfl := Option.some.inj (hty.symm.trans ht0)
  obtain ⟨xs, m1, rfl, hx1, hlen, hn, hel⟩ := DataW.trod_array ht hd0
  simp only [Prod.mk.injEq, DataW.agg.injEq] at hx1
  have hll : ls.length = n := by have := congrArg List.length hx1.1; simpa [hn] using this
  have hcs : cs0 = tabOf ls := by
    obtain ⟨l0⟩ := cs0
    unfold tabOf
    congr 1
    apply List.ext_getElem?
    intro i
    by_cases hi : i < n
    · have hxi : i < xs.length := by omega
      have h0 := hel i hi
      rw [List.getElem?_eq_getElem hxi, hce] at h0
      obtain ⟨s, e1, e2, _⟩ := DataW.trod_string he h0
      have hl := congrArg (fun l => l[i]?) hx1.1
      simp only [List.getElem?_map, List.getElem?_eq_getElem hxi, Option.map_some] at hl
      rw [e2] at hl
      obtain ⟨l, hl1, hl2⟩ := Option.map_eq_some_iff.1 hl
      have hl3 : l = s.data.toList := by simpa using hl2
      have hs : (⟨l.toArray⟩ : ByteArray) = s := bytes_inj (by rw [hl3])
      rw [List.getElem?_map, hl1, Option.map_some, hs]
      have e3 := congrArg (fun l => l[0]?) e1
      simpa using e3
    · rw [List.getElem?_eq_none (by rw [hct] at hlen; simp at hlen; omega), List.getElem?_eq_none (by simp; omega)]
  subst hcs
  simp only [World.var?, hg, Option.bind_some] at hv0
  split at hv0
  · rename_i cs t' fr hh
    have := Option.some.inj hv0
    subst this
    exact ⟨_, _, hh⟩
  · cases hv0

/-- An array of strings that is listed holds just these strings. -/
theorem strs_of_laid {P : Program} {W : World} {name : String} {ls : List (List UInt8)} {rest : List (String × DataW Unit)} {g n : Nat} {t e : TypeId}
    (hg : P.globalNamed name = some g) (hty : (P.globals[g]?).map (·.type) = some t) (ht : P.underlying t = some (.array n e)) (he : P.underlying e = some .string) (hce : P.cellsOf e = 1)
    (h : laidMet P ((name, .agg (ls.map fun l => .lit (.string l))) :: rest) W) (i : Nat) (hi : i < n) : W.cell? ⟨g, i, none⟩ = some (.string ⟨(ls.getD i []).toArray⟩) := by
  obtain ⟨ps, ⟨g0, t0, cs0, f0, p0, q0, hg0, ht0, hv0, hd0, _, _⟩, _, _⟩ := h
  obtain rfl := Option.some.inj (hg.symm.trans hg0)
  obtain rfl := Option.some.inj (hty.symm.trans ht0)
  obtain ⟨xs, m1, rfl, hx1, hlen, hn, hel⟩ := DataW.trod_array ht hd0
  simp only [Prod.mk.injEq, DataW.agg.injEq] at hx1
  have hxi : i < xs.length := by omega
  have h0 := hel i hi
  rw [List.getElem?_eq_getElem hxi, hce] at h0
  obtain ⟨s, e1, e2, _⟩ := DataW.trod_string he h0
  have hl := congrArg (fun l => l[i]?) hx1.1
  simp only [List.getElem?_map, List.getElem?_eq_getElem hxi, Option.map_some] at hl
  rw [e2] at hl
  obtain ⟨l, hl1, hl2⟩ := Option.map_eq_some_iff.1 hl
  have hl3 : l = s.data.toList := by simpa using hl2
  have hs : s = ⟨(ls.getD i []).toArray⟩ := bytes_inj (by rw [List.getD_eq_getElem?_getD, hl1, hl3]; simp)
  have hv := World.var?_cell hg0 hv0 i
  rw [hv, ← hs]
  have e3 := congrArg (fun l => l[0]?) e1
  simpa using e3

/-- WHAT THE ROWS' LIST GIVES. -/
theorem good_of {W : World} (h0 : laidMetH Tryz.prog Rows.parseExactRow.laid W) : Good W ∧ PowIn W := by
  have h : laidMet Tryz.prog Rows.parseExactRow.laid W := by rwa [MakeChecks.laidMetH_plain _ _ _ (by kernel_rfl)] at h0
  have hp : Lib.TabIs Tryz.prog W "internal/strconv.uint64pow10" .u64 Lib.pow10Tab := Lib.tabIs_of_head gPow6 tPow Tryz.underlying154 Tryz.underlying104 cells104 cells154 h.tail.tail
  obtain ⟨a0, s0, hv0, -, -, -⟩ := laid_sentinel h.tail.tail.tail gRange tRange Tryz.underlying99 row149 Tryz.underlying149 Tryz.underlying151 rfl rfl Tryz.underlying9 cells151 cells9
  have hs : SignsIn W := strs_of_laid (ls := signTab) gSigns tSigns Tryz.underlying91 Tryz.underlying9 cells9 h.tail.tail.tail.tail.tail
  have hl : LongsIn W := tabs_of_laid (ls := longTab) gLongs tLongs Tryz.underlying110 Tryz.underlying9 cells9 cells110 h.tail.tail.tail.tail.tail.tail
  have hk : KeysIn W := tabs_of_laid (ls := keyTab) gKeys tKeys Tryz.underlying103 Tryz.underlying9 cells9 cells103 h.tail.tail.tail.tail.tail.tail.tail
  obtain ⟨ps, ⟨g1, t1, cs1, f1, p1, q1, hg1, ht1, hv1, hd1, hrest⟩, _, _⟩ := h.tail
  refine ⟨⟨hs, hk, hl, ⟨_, _, hv0⟩, ?_⟩, hp⟩
  have g8 : Tryz.prog.globalNamed "math/bits.deBruijn64tab" = some 8 := by kernel_rfl
  obtain rfl := Option.some.inj (g8.symm.trans hg1)
  simp only [World.var?, hg1, Option.bind_some] at hv1
  rcases Nat.lt_or_ge 8 W.heap.size with h' | h'
  · omega
  · simp [Array.getElem?_eq_none h'] at hv1

/-- The world that the door's own run leaves meets the list. -/
theorem door_met (os : Os) (args : Array Value) : laidMetH Tryz.prog Rows.parseExactRow.laid ((World.doorLaid Tryz.prog 77 os).forCall (fun _ _ => 0) ⟨#[], args, []⟩).memory :=
  laidMetH_of_parts3 (fuel := 8) (laidMet_of_run' 8 (by kernel_rfl) (by kernel_rfl)) (by kernel_rfl) (by kernel_rfl)

end Go.Proofs.YtfbejfoalnhihaaGreatDoor

/-
  CONTRACT: ParseSizes answers true. Blocks from the world's end on alone are new.
-/
namespace Go.Proofs.YtfbejfoalnhihaaGreatDoor
open Go.RowKit

theorem TokS.num_le {l : List UInt8} {ts : List Tok} (h : TokS l ts) (k : Nat) (hk : (Tf ts k).kind = 3) : numN (Tf ts k).text ≤ 9223372036854775807 := by
  unfold Tf at hk ⊢
  cases hg : ts[k]? with
  | none => rw [hg] at hk; cases hk
  | some t =>
    rw [hg] at hk
    simp only at hk ⊢
    have hf := tok_facts (h.ok _ (List.mem_of_getElem? hg))
    obtain ⟨-, -, h2, -⟩ : t.kind = 3 ∧ t.text.all digB = true ∧ parE t.text = 0 ∧ 0 < t.text.length := by
      rcases hf with hf | hf | hf | hf
      · omega
      · omega
      · exact hf
      · omega
    unfold parE at h2
    unfold numN
    split at h2
    · split at h2
      · omega
      · cases h2
    · cases h2
theorem parsed {l : List UInt8} {ts : List Tok} {ks : List Tree} (h : parseR l = .ok ts ks) : TokS l ts ∧ LX (fun t => Al (Wd (Tf ts)) t ∧ (t.op = 2 ∨ t.op = 3 ∨ t.op = 4)) 0 ks ts.length := by
  unfold parseR at h
  cases hs : scanR l with
  | bad p e => rw [hs] at h; cases h
  | ok ts' =>
    rw [hs] at h
    have hT := toks_of hs
    cases hp : P (Tf ts') (fuelT ts') .decls 0 0 with
    | none => simp only [hp, treeR] at h; cases h
    | some r =>
      simp only [hp, treeR] at h
      cases r with
      | bad j e => cases h
      | ok ks' j =>
        obtain ⟨rfl, rfl⟩ : ts' = ts ∧ ks' = ks := by injection h with a b; exact ⟨a, b⟩
        have hg := P_good hT.num_le _ _ _ _ _ _ hp
        have hj := P_prog hT.sent (nt := .decls) trivial (Nat.zero_le _) hp
        exact ⟨hT, hg.1, by have := hg.2; omega⟩

set_option maxRecDepth 100000 in
set_option maxHeartbeats 1000000 in
theorem sizes_true (s : ByteArray) (w : World) (g : Good w) (pw : PowIn w) (hs : s.size ≤ 281474976710656) : Calls Tryz.prog 7 #[.string s] w fun e w' => e = .returned (.bool true) ∧ Below w.heap.size w w' := by
  have AW := Lib.hid (awake_true w g pw)
  have G := Lib.hid g
  clear g pw
  go_enter Tryz.func7, Tryz.ntmps7
  go_wp2_with fail
  refine AW.out.mono ?_
  rintro e w1 ⟨rfl, hb⟩
  have B1 := Lib.hid hb
  have G1 := Lib.hid (G.out.below hb)
  clear hb AW G
  by_cases hl : 4096 < s.size
  · have hli : (4096 : Int) < (s.size : Int) := by omega
    go_wp2_with fail
    go_ret
    exact ⟨rfl, B1.out⟩
  have hli : ¬ (4096 : Int) < (s.size : Int) := by omega
  go_wp2_with fail
  obtain ⟨r, hr⟩ : ∃ r, parseR s.data.toList = r := ⟨_, rfl⟩
  have HR := Lib.hid hr
  clear hr
  cases r with
  | bad p er =>
    refine Calls.mono (R := ParseQ s.data.toList (.bad p er) _) (parse_full s _ _ G1.out hs HR) ?_
    rintro e w2 ⟨hb, rfl⟩
    have hne : ¬ er = 0 := parse_err HR.out
    have hne2 : ((er : Int) == 0) = false := by simp; omega
    have hne3 : ¬ (er : Int) = 0 := by omega
    have B2 := Lib.hid (B1.out.trans (hb.mono B1.out.size))
    clear hb
    have BX := Lib.hid (b1 w2 (.cells #[.pointer none] 25))
    have U := Lib.hid (PtrAt.new w2 none)
    have U0 := U.out.c0
    go_wp2_with fail
    clear U0
    refine (size_zero' _).mono ?_
    rintro e w3 ⟨rfl, hb⟩
    have HB3 := Lib.hid (B2.out.trans ((BX.out.trans (hb.mono BX.out.size)).mono B2.out.size))
    clear hb
    go_wp2_with fail
    go_ret
    exact ⟨rfl, HB3.out⟩
  | ok ts ks =>
    obtain ⟨hT, hA⟩ := parsed HR.out
    refine Calls.mono (R := ParseQ s.data.toList (.ok ts ks) _) (parse_full s _ _ G1.out hs HR) ?_
    rintro e w2 ⟨hb, b, rfl, hn⟩
    have B2 := Lib.hid (B1.out.trans (hb.mono B1.out.size))
    have BX := Lib.hid (b1 w2 (.cells #[.pointer (some ⟨b, 0, none⟩)] 25))
    have N := Lib.hid (hn.bl BX.out)
    have U := Lib.hid (PtrAt.new w2 (some ⟨b, 0, none⟩))
    have SZ : Hid (∀ w' ok, NodeAt ok (plf ts s.data.toList.length) w' b (root ts ks) → Calls Tryz.prog 22 #[.agg #[.pointer (some ⟨b, 0, none⟩)], .int .i64 (s.size : Int)] w' fun e w'' => e = .returned (.bool true) ∧ Below w'.heap.size w' w'') := fun w' ok h' =>
      sized_any (s.size : Int) (plf ts s.data.toList.length) (fun p => by have h9 := hT.ple p; have h8 : s.data.toList.length = s.size := rfl; omega) (sizeT (root ts ks)) _ (Nat.le_refl _) (fun k u hu => (hA.1 u (List.mem_of_getElem? hu)).1.ok) w' b ok h'
    clear hb hn hT hA
    unfold nodeV
    have U0 := U.out.c0
    go_wp2_with fail
    clear U0
    refine (SZ.out _ _ N.out).mono ?_
    rintro e w3 ⟨rfl, hb⟩
    have HB3 := Lib.hid (B2.out.trans ((BX.out.trans (hb.mono BX.out.size)).mono B2.out.size))
    clear hb
    go_wp2_with fail
    go_ret
    exact ⟨rfl, HB3.out⟩

end Go.Proofs.YtfbejfoalnhihaaGreatDoor
