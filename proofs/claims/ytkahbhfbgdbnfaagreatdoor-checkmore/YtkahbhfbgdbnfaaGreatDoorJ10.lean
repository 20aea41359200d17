/-
  CONTRACT: call of package check, given expr of the kids. Of what was there nothing has turned.
-/
import Derived.Test.YtkahbhfbgdbnfaaGreatDoorJ9
import Derived.Test.YtkahbhfbgdbnfaaGreatDoorJ3
import Derived.Deep.AppendLies
import Derived.Maps.AppendAt
import Derived.OwnWalk
import Derived.RegionTactic
import Derived.Test.YtkahbhfbgdbnfaaGreatDoorJ6
import Derived.Lib.LaidTab
import Derived.Test.YtkahbhfbgdbnfaaGreatDoorJ5
namespace Go.Proofs.YtkahbhfbgdbnfaaGreatDoor
open Go.RowKit

theorem allC_bad : ∀ (rs : List (CR ByteArray)) (us : List ByteArray) (k p e : Nat), rs.take k = us.map .ok → rs[k]? = some (.bad p e) → allC rs = .bad p e
  | [], us, k, p, e, _, h => by simp at h
  | r :: rs, us, 0, p, e, _, h => by obtain rfl := Option.some.inj h; rfl
  | r :: rs, [], k + 1, p, e, h0, h => by simp at h0
  | r :: rs, a :: us, k + 1, p, e, h0, h => by
    simp only [List.take_succ_cons, List.map_cons, List.cons.injEq] at h0
    obtain ⟨rfl, h1⟩ := h0
    simp only [allC, CR.bind, allC_bad rs us k p e h1 h]
theorem allC_ok : ∀ (us : List ByteArray), allC (us.map .ok) = .ok us
  | [] => rfl
  | a :: us => by simp only [List.map_cons, allC, CR.bind, allC_ok us]
theorem take_snoc {α : Type} {l : List α} {k : Nat} {a : α} (h : l[k]? = some a) : l.take (k + 1) = l.take k ++ [a] := by
  rw [List.take_add_one, h]; rfl
theorem cstr_info : (Tryz.prog.info? 9).map (fun i => (i.zero, i.size, i.bytes)) = some (some (.string ⟨#[]⟩), 1, 16) := by kernel_rfl
theorem newsA (w : World) (a : Value) (e : TypeId) : ∀ j u, [a][j]? = some u → (w.alloc (.cells #[a] e)).cell? ((⟨w.heap.size, 0, none⟩ : Addr).add j) = some u := by
  intro j u h
  cases j with
  | zero => obtain rfl := Option.some.inj h; exact cell_new w _ e 0
  | succ j => simp at h
/-- So many arguments are told. -/
def ARel (wa : World) (rs : List (CR ByteArray)) (m : Nat) (v i : Value) (wr : World) : Prop :=
  ∃ (k : Nat) (us : List ByteArray), k ≤ m ∧ us.length = k ∧ i = .int .i64 k ∧ Hid (rs.take k = us.map .ok) ∧ Hid (wr.ownsRow wa.heap.size 9 1 v k (us.map .string)) ∧ Hid (Below wa.heap.size wa wr)
/-- So many arguments fit. -/
def BRel (wb : World) (us : List ByteArray) (ps : List Fld) (m : Nat) (i : Value) (wr : World) : Prop :=
  ∃ k : Nat, k ≤ m ∧ i = .int .i64 k ∧ Hid (fitAll us ps = fitAll (us.drop k) (ps.drop k)) ∧ Hid (Below wb.heap.size wb wr)
theorem fit_step {us : List ByteArray} {ps : List Fld} {k : Nat} {a : ByteArray} {f : Fld} (h1 : us[k]? = some a) (h2 : ps[k]? = some f) : fitAll (us.drop k) (ps.drop k) = (fitB a f.typ && fitAll (us.drop (k + 1)) (ps.drop (k + 1))) := by
  obtain ⟨l1, rfl⟩ := List.getElem?_eq_some_iff.1 h1
  obtain ⟨l2, rfl⟩ := List.getElem?_eq_some_iff.1 h2
  rw [List.drop_eq_getElem_cons l1, List.drop_eq_getElem_cons l2, fitAll]
theorem fit_end {us : List ByteArray} {ps : List Fld} {k : Nat} (h : us.length ≤ k) : fitAll (us.drop k) (ps.drop k) = true := by
  rw [List.drop_eq_nil_of_le h]; unfold fitAll; cases ps.drop k <;> rfl
set_option maxRecDepth 100000 in
set_option maxHeartbeats 1000000 in
theorem ccall_any (E : CE) (v : Value) (K : List Fld) (f b : Nat) (t : Tree) (w : World) (H : SC E w v K f) (hKo : KOk E.x K) (N : Nd E b t) (ih : ∀ (k : Nat) (u : Tree), t.kids[k]? = some u → XH E u) :
    Calls Tryz.prog 205 #[.pointer (some ⟨E.sb, 0, none⟩), .agg #[.pointer (some ⟨b, 0, none⟩)]] w (XQ E w ((allC (t.kids.map (exprC E.x K))).bind fun us => callC E.x K t.pos (nm t) us)) := by
  have B0 := Lib.hid (b1 w (.cells #[.pointer (some ⟨b, 0, none⟩)] 25))
  have H0 := Lib.hid (H.below (b1 w (.cells #[.pointer (some ⟨b, 0, none⟩)] 25)))
  have U0 := Lib.hid (PtrAt.new w (some ⟨b, 0, none⟩))
  have NN := Lib.hid N
  have IH := Lib.hid ih
  have HKO := Lib.hid hKo
  obtain ⟨rs, hrs⟩ : ∃ r, t.kids.map (exprC E.x K) = r := ⟨_, rfl⟩
  have HRS := Lib.hid hrs
  rw [hrs]
  obtain ⟨m, hm⟩ : ∃ m, t.kids.length = m := ⟨_, rfl⟩
  have HM := Lib.hid hm
  have hm6 : m ≤ 6000 := by obtain ⟨-, -, -, -, h, -⟩ := N.kid; omega
  obtain ⟨i0, hi0, hz0, hz1, hz2⟩ := info_parts cstr_info
  have HI0 := Lib.hid hi0
  have HZ0 := Lib.hid hz0
  have HZ1 := Lib.hid hz1
  have HZ2 := Lib.hid hz2
  clear H N ih hKo hrs hi0 hz0 hz1 hz2
  go_enter Tryz.func205, Tryz.ntmps205
  go_wp2_with fail
  generalize w.alloc (.cells #[.pointer (some ⟨b, 0, none⟩)] 25) = wa at *
  have u0 := U0.out.c0
  have ul := U0.out.lt
  have sl := H0.out.lt
  have c0 := H0.out.c0
  have c1 := H0.out.c1
  have c2 := H0.out.c2
  refine (ckids_at NN.out H0.out.B _ (Below.refl _ _)).mono ?_
  rintro e w1 ⟨rfl, hb0⟩
  have HB0 := Lib.hid hb0
  rw [hm]
  clear hb0 hm c0 c1 c2
  go_wp2_with fail
  go_loopw [5, 12] (fun v i wr => ARel wa rs m v i wr) (fun _ i _ => m - (intOf i).toNat)
  case atStart => exact ⟨0, [], Nat.zero_le _, rfl, rfl, rfl, World.ownsRow_nil _ _ _ _, HB0.out⟩
  case round =>
    obtain ⟨k, us, hk, hul, rfl, HT, HO, HB⟩ := hrel
    by_cases hlt : k < m
    · obtain ⟨u, hu⟩ : ∃ u, t.kids[k]? = some u := ⟨_, List.getElem?_eq_getElem (by have := HM.out; omega)⟩
      obtain ⟨r, hr⟩ : ∃ r, exprC E.x K u = r := ⟨_, rfl⟩
      have HR := Lib.hid hr
      have HRK : Hid (rs[k]? = some r) := by show _ = _; rw [← HRS.out, List.getElem?_map, hu, ← hr]; rfl
      obtain ⟨nb, hn, hkd⟩ := ckid_at NN.out H0.out.B k u hu
      have HU := Lib.hid hu
      have N1 := Lib.hid hn
      have KD := Lib.hid hkd
      have ur := keepC (Below.refl _ _) u0 ul HB.out
      clear hr hu hn hkd
      go_wp2_with fail
      refine (KD.out _ HB.out).mono ?_
      rintro e w2 ⟨rfl, hb2⟩
      have B2 := Lib.hid (HB.out.trans (hb2.mono HB.out.size))
      have O2 := Lib.hid (own_below2 HO.out hb2)
      clear hb2 KD
      go_wp2_with fail
      refine (IH.out k u HU.out w2 _ K f nb (H0.out.below B2.out) HKO.out N1.out).mono ?_
      rw [HR.out]
      rintro e w3 ⟨hb3, he⟩
      cases r with
      | bad p er =>
        obtain rfl := he
        exact ⟨rfl, onB B0.out B2.out hb3, by rw [allC_bad rs us k p er HT.out HRK.out]; rfl⟩
      | ok a =>
        obtain rfl := he
        have B3 := Lib.hid (B2.out.trans (hb3.mono B2.out.size))
        have O3 := Lib.hid (own_below2 O2.out hb3)
        clear hb3
        go_wp2_with (at_builtin; refine Hid.out ?_)
        refine Lib.hid ?_
        refine wpList_append_lies _ rfl (.tmp 15) (.tmp 21) _ rfl wa.heap.size 9 i0 _ 1 16 Tryz.underlying63 HI0.out HZ0.out HZ1.out HZ2.out rfl (by omega) u5 k (us.map .string) rfl (by exact O3.out.alloc _) ⟨w3.heap.size, 0, none⟩ 1 1 [.string a] rfl rfl (by exact newsA w3 _ 9) (by simp [Value.oneCell']) (by omega) (by simp only [maxLen]; omega) (by omega) (by simp; have := B3.out.size; omega) (w3.heap.size + 1) (by simp) ?_
        intro g cap w4 hown hg hat hlt4
        have B4 : Below wa.heap.size wa w4 := (B3.out.alloc B3.out.size _).grown hg (by simp; have := B3.out.size; omega) (fun k hk => (O3.out.lt k hk).1)
        have hown' : w4.ownsRow wa.heap.size 9 1 (.slice (some ⟨g, 0, none⟩) (k + 1) cap) (k + 1) ((us ++ [a]).map .string) := by rw [List.map_append]; exact hown
        have HOn := Lib.hid hown'
        have HBn := Lib.hid B4
        clear hown hg hat hown' B4
        go_wp2_with fail
        go_roundw
        case rel => exact ⟨k + 1, us ++ [a], by omega, by simp [hul], by go_num, by show _ = _; rw [take_snoc HRK.out, HT.out, List.map_append]; rfl, HOn, HBn⟩
        case measure => simp [intOf]; omega
    · obtain rfl : k = m := by omega
      have HAL : Hid (rs = us.map .ok) := by
        show _ = _
        rw [← HT.out, List.take_of_length_le (by rw [← HRS.out, List.length_map, HM.out]; exact Nat.le_refl _)]
      have HCL : Hid ((allC rs).bind (fun us => callC E.x K t.pos (nm t) us) = callC E.x K t.pos (nm t) us) := by show _ = _; rw [HAL.out, allC_ok]; rfl
      have ur := keepC (Below.refl _ _) u0 ul HB.out
      obtain ⟨q, hq⟩ : ∃ q, calleeC E.x K t.pos (nm t) = q := ⟨_, rfl⟩
      have HQ := Lib.hid hq
      clear hq
      go_wp2_with fail
      refine (ccallee_any E v K f b t wr (H0.out.below HB.out) NN.out).mono ?_
      rw [HQ.out]
      rintro e w5 ⟨hb5, he⟩
      cases q with
      | bad p er =>
        obtain rfl := he
        exact ⟨rfl, onB B0.out HB.out hb5, by rw [HCL.out]; unfold callC; rw [HQ.out]; rfl⟩
      | ok g =>
        obtain ⟨PA, pc, rfl, gle, glm, gfr⟩ := he
        have HCC : Hid (callC E.x K t.pos (nm t) us = nd t.pos (us.length == g.params.length) 7 (nd t.pos (fitAll us g.params) 7 (.ok g.res))) := by show _ = _; unfold callC; rw [HQ.out]; rfl
        have B5 := Lib.hid (HB.out.trans (hb5.mono HB.out.size))
        have O5 := Lib.hid (own_below2 HO.out hb5)
        have GF := Lib.hid gfr
        have u5' := keepC HB.out ur ul hb5
        obtain ⟨AA, ac, rfl, -⟩ : ∃ AA ac, u5 = .slice AA k ac ∧ True := by
          rcases HO.out.2 with ⟨h1, h2⟩ | ⟨gg, cap, cur, h1, -⟩
          · exact ⟨none, 0, by rw [h1, h2], trivial⟩
          · exact ⟨_, _, h1, trivial⟩
        clear hb5 gfr ur HO
        have BV := Lib.hid (b1 w5 (.cells #[.string g.name, .slice PA g.params.length pc, .string g.res] 55))
        have s0 : (w5.alloc (.cells #[.string g.name, .slice PA g.params.length pc, .string g.res] 55)).cell? ⟨w5.heap.size, 0, none⟩ = some (.string g.name) := cell_new w5 _ 55 0
        have s1 : (w5.alloc (.cells #[.string g.name, .slice PA g.params.length pc, .string g.res] 55)).cell? ⟨w5.heap.size, 1, none⟩ = some (.slice PA g.params.length pc) := cell_new w5 _ 55 1
        have s2 : (w5.alloc (.cells #[.string g.name, .slice PA g.params.length pc, .string g.res] 55)).cell? ⟨w5.heap.size, 2, none⟩ = some (.string g.res) := cell_new w5 _ 55 2
        have sl5 : w5.heap.size < (w5.alloc (.cells #[.string g.name, .slice PA g.params.length pc, .string g.res] 55)).heap.size := by simp
        have u6 := keepC B5.out u5' ul BV.out
        clear u5'
        obtain ⟨d, hd⟩ : ∃ d, ((k : Int) == (g.params.length : Int)) = d := ⟨_, rfl⟩
        have HD : Hid ((us.length == g.params.length) = d) := by
          show _ = _
          rw [← hd, hul]
          by_cases h : k = g.params.length
          · rw [← h]; simp
          · rw [beq_eq_false_iff_ne.2 h, beq_eq_false_iff_ne.2 (by omega)]
        generalize hlen : g.params.length = gm at gle glm s1 sl5 hd ⊢ u6 BV s0 s2
        go_wp2_with fail
        generalize w5.alloc (.cells #[.string g.name, .slice PA gm pc, .string g.res] 55) = wb at *
        have B6 := Lib.hid (B5.out.trans (BV.out.mono B5.out.size))
        have ul6 := Nat.lt_of_lt_of_le ul B6.out.size
        have O6 := Lib.hid (own_below2 O5.out BV.out)
        have G6 := Lib.hid (GF.out.below BV.out (Nat.le_refl _))
        refine (cneed_at NN.out H0.out.B d 7 _ B6.out).mono ?_
        rintro e w7 ⟨hb7, he⟩
        cases d with
        | false =>
          obtain rfl := he
          exact ⟨rfl, onB B0.out B6.out hb7, by rw [HCL.out, HCC.out, HD.out]; rfl⟩
        | true =>
          obtain rfl := he
          have hkg : k = gm := by have := eq_of_beq HD.out; omega
          have HLN := Lib.hid hlen
          have H7 := Lib.hid hb7
          clear hb7 O5 GF B5 BV HD hd hlen
          go_wp2_with fail
          go_loopw [37] (fun i wr => BRel wb us g.params k i wr) (fun i _ => k - (intOf i).toNat)
          case atStart => exact ⟨0, Nat.zero_le _, rfl, rfl, H7.out⟩
          case round =>
            obtain ⟨j, hj, rfl, HF, HB7⟩ := hrel
            by_cases hjl : j < k
            · obtain ⟨a, ha⟩ : ∃ a, us[j]? = some a := ⟨_, List.getElem?_eq_getElem (by omega)⟩
              obtain ⟨pf, hpf⟩ : ∃ a, g.params[j]? = some a := ⟨_, List.getElem?_eq_getElem (by have := HLN.out; omega)⟩
              have hty := typAt_at hpf
              have hst := fit_step ha hpf
              rw [← hty] at hst
              have HST := Lib.hid hst
              have hform := O6.out.form (by omega)
              obtain ⟨ag, acap, hav, -, -⟩ := hform
              simp only [Value.slice.injEq] at hav
              obtain ⟨rfl, -, rfl⟩ := hav
              have acell : wr.cell? ⟨ag, j, none⟩ = some (.string a) := by
                have h := O6.out.cellAt j (by omega)
                rw [List.getElem?_map, ha] at h
                exact (HB7.out.cell (p := ⟨ag, j, none⟩) (O6.out.lt ag rfl).2).trans h
              obtain ⟨pb, po, rfl, hpb, hcell⟩ := fld_at G6.out (g := j) (by have := HLN.out; omega)
              have pr := (HB7.out.cell (p := ⟨pb, _, none⟩) hpb).trans hcell
              have ur := keepC (Below.refl _ _) u6 ul6 HB7.out
              have sr := keepC (Below.refl _ _) s1 sl5 HB7.out
              have ulr := Nat.lt_of_lt_of_le ul6 HB7.out.size
              have slr := Nat.lt_of_lt_of_le sl5 HB7.out.size
              have plr := Nat.lt_of_lt_of_le hpb HB7.out.size
              have BW := Lib.hid (B6.out.trans (HB7.out.mono B6.out.size))
              obtain ⟨d, hd⟩ : ∃ d, fitB a (typAt g.params j) = d := ⟨_, rfl⟩
              have HD := Lib.hid hd
              clear ha hpf hty hst hcell hd
              go_wp2_with fail
              refine rgS (fun w' => Below wr.heap.size wr w' ∧ w'.cell? ⟨w.heap.size, 0, none⟩ = some (.pointer (some ⟨b, 0, none⟩)) ∧ w'.cell? ⟨w5.heap.size, 1, none⟩ = some (.slice (some ⟨pb, po, none⟩) gm pc) ∧ w'.cell? ⟨pb, po + j * 2 + 1, none⟩ = some (.string (typAt g.params j))) (by kernel_rfl) (⟨(Below.refl _ _).drew, ur, sr, pr⟩) (fun _ a d v _ h => And.intro ((put_df a d v).symm.trans (And.left h)) (And.right h)) fun hHeld hq => ?_
              refine tkS 0 { dst := some 42, op := .load 25 (.tmp 3), type := 25, pos := "expr.go:100", after := #[], guard := none } (v := ?v1_0) hq hHeld rfl (by kernel_rfl) ?y1_0 ?_
              case y1_0 => (intro w h; try dsimp only at h); go_simp <;> with_reducible rfl
              try simp only [Act.put, List.setIfInBounds_toArray, List.set_cons_zero, List.set_cons_succ]
              refine tkS 1 { dst := some 43, op := .move (.tmp 9), type := 9, pos := "expr.go:100", after := #[], guard := none } (v := ?v1_1) hq hHeld rfl (by kernel_rfl) ?y1_1 ?_
              case y1_1 => (intro w h; try dsimp only at h); go_simp <;> with_reducible rfl
              try simp only [Act.put, List.setIfInBounds_toArray, List.set_cons_zero, List.set_cons_succ]
              refine tkS 2 { dst := some 44, op := .fieldAddr 55 (.tmp 7) 1, type := 0, pos := "expr.go:100", after := #[], guard := none } (v := ?v1_2) hq hHeld rfl (by kernel_rfl) ?y1_2 ?_
              case y1_2 => (intro w h; try dsimp only at h); go_simp <;> with_reducible rfl
              try simp only [Act.put, List.setIfInBounds_toArray, List.set_cons_zero, List.set_cons_succ]
              refine tkS 3 { dst := some 45, op := .load 41 (.tmp 44), type := 41, pos := "expr.go:100", after := #[{ on := 2, ground := .data }], guard := none } (v := ?v1_3) hq hHeld rfl (by kernel_rfl) ?y1_3 ?_
              case y1_3 => (intro w h; try dsimp only at h); go_simp <;> with_reducible rfl
              try simp only [Act.put, List.setIfInBounds_toArray, List.set_cons_zero, List.set_cons_succ]
              refine tkS 4 { dst := some 46, op := .move (.tmp 8), type := 3, pos := "expr.go:100", after := #[], guard := none } (v := ?v1_4) hq hHeld rfl (by kernel_rfl) ?y1_4 ?_
              case y1_4 => (intro w h; try dsimp only at h); go_simp <;> with_reducible rfl
              try simp only [Act.put, List.setIfInBounds_toArray, List.set_cons_zero, List.set_cons_succ]
              refine tkS 5 { dst := some 47, op := .indexAddr 41 (.tmp 45) (.tmp 46), type := 0, pos := "expr.go:100", after := #[{ on := 3, ground := .data }, { on := 4, ground := .data }], guard := none } (v := ?v1_5) hq hHeld rfl (by kernel_rfl) ?y1_5 ?_
              case y1_5 => (intro w h; try dsimp only at h); go_simp <;> with_reducible rfl
              try simp only [Act.put, List.setIfInBounds_toArray, List.set_cons_zero, List.set_cons_succ]
              refine tkS 6 { dst := some 48, op := .fieldAddr 97 (.tmp 47) 1, type := 0, pos := "expr.go:100", after := #[{ on := 5, ground := .data }], guard := none } (v := ?v1_6) hq hHeld rfl (by kernel_rfl) ?y1_6 ?_
              case y1_6 => (intro w h; try dsimp only at h); go_simp <;> with_reducible rfl
              try simp only [Act.put, List.setIfInBounds_toArray, List.set_cons_zero, List.set_cons_succ]
              refine tkS 7 { dst := some 49, op := .load 9 (.tmp 48), type := 9, pos := "expr.go:100", after := #[{ on := 6, ground := .data }], guard := none } (v := ?v1_7) hq hHeld rfl (by kernel_rfl) ?y1_7 ?_
              case y1_7 => (intro w h; try dsimp only at h); go_simp <;> with_reducible rfl
              try simp only [Act.put, List.setIfInBounds_toArray, List.set_cons_zero, List.set_cons_succ]
              refine clS 8 { dst := some 50, op := .call { callee := .value (.func 188), args := #[.tmp 43, .tmp 49], argTypes := #[9, 9] }, type := 4, pos := "expr.go:100", after := #[{ on := 1, ground := .data }, { on := 7, ground := .data }], guard := none } rfl (by kernel_rfl) (by kernel_rfl) fun Kc hK => ?_
              go_simp
              refine (sameB (cfits_any a (typAt g.params j) d _ (Lib.hid (H0.out.below (BW.out.trans (hHeld.1.mono BW.out.size))).imw.good.keys) HD)).mono ?_
              rintro e w1 ⟨rfl, hb⟩
              refine hK.out _ _ ⟨hHeld.1.trans (hb.mono hHeld.1.size), keepC hHeld.1 hHeld.2.1 ulr hb, keepC hHeld.1 hHeld.2.2.1 slr hb, keepC hHeld.1 hHeld.2.2.2 plr hb⟩ fun hHeld => ?_
              clear hb
              clear hK Kc
              try simp only [Act.put, List.setIfInBounds_toArray, List.set_cons_zero, List.set_cons_succ]
              refine clS 9 { dst := some 51, op := .call { callee := .value (.func 148), args := #[.tmp 42, .tmp 50, .const (.int .i64 7)], argTypes := #[25, 4, 26] }, type := 0, pos := "expr.go:100", after := #[{ on := 0, ground := .data }, { on := 8, ground := .data }, { on := 8, ground := .chain }], guard := none } rfl (by kernel_rfl) (by kernel_rfl) fun Kc hK => ?_
              go_simp
              refine (cneed_at NN.out H0.out.B d 7 _ (BW.out.trans (hHeld.1.mono BW.out.size))).mono ?_
              rintro e w1 ⟨hb, he⟩
              cases d with
              | false => obtain rfl := he; exact ⟨rfl, onB B0.out BW.out (hHeld.1.trans (hb.mono hHeld.1.size)), by rw [HCL.out, HCC.out, show (us.length == g.params.length) = true by rw [HLN.out]; simp; omega, HF.out, HST.out, HD.out]; rfl⟩
              | true =>
              obtain rfl := he
              refine hK.out _ _ ⟨hHeld.1.trans (hb.mono hHeld.1.size), keepC hHeld.1 hHeld.2.1 ulr hb, keepC hHeld.1 hHeld.2.2.1 slr hb, keepC hHeld.1 hHeld.2.2.2 plr hb⟩ fun hHeld => ?_
              clear hb
              clear hK Kc
              try simp only [Act.put, List.setIfInBounds_toArray, List.set_cons_zero, List.set_cons_succ]
              refine wpAnyH_done (by kernel_rfl) ?_ _
              have hh := Lib.hid hHeld.1
              clear hHeld
              go_wp2_with fail
              go_roundw
              case rel => exact ⟨j + 1, by omega, by go_num, by show _ = _; rw [HF.out, HST.out, HD.out]; rfl, HB7.out.trans (hh.out.mono HB7.out.size)⟩
              case measure => simp [intOf]; omega
            · obtain rfl : j = k := by omega
              have HFT : Hid (fitAll us g.params = true) := by show _ = _; rw [HF.out, fit_end (by omega)]
              have s2r := keepC (Below.refl _ _) s2 sl5 HB7.out
              go_wp2_with fail
              go_ret
              exact ⟨onB B0.out B6.out HB7.out, by rw [HCL.out, HCC.out, show (us.length == g.params.length) = true by rw [HLN.out]; simp; omega, HFT.out]; rfl⟩

end Go.Proofs.YtkahbhfbgdbnfaaGreatDoor

/-
  CONTRACT: Scan at every text: its tokens, in new memory, or the place and the error of the first that is wrong; in a world in which the listed variables lie as the program's text lays them; of what was there nothing has turned.
-/
namespace Go.Proofs.YtkahbhfbgdbnfaaGreatDoor
open Go.RowKit

def cellsT (ts : List Tok) : List Value := ts.flatMap fun t => [.int .i64 t.kind, .string ⟨t.text.toArray⟩, .int .i64 t.place]
theorem cellsT_snoc (ts : List Tok) (t : Tok) : cellsT (ts ++ [t]) = cellsT ts ++ [.int .i64 t.kind, .string ⟨t.text.toArray⟩, .int .i64 t.place] := by simp [cellsT]
def ScanQ (r : R) (w : World) (e : Ending) (w' : World) : Prop := Below w.heap.size w w' ∧ (match r with
  | .ok ts => ∃ v, e = .returned (.tuple #[v, .int .i64 0, .int .i64 0]) ∧ w'.ownsRow w.heap.size 108 3 v ts.length (cellsT ts)
  | .bad p er => e = .returned (.tuple #[.slice none 0 0, .int .i64 p, .int .i64 er]))
/-- What Scan answers. -/
def scanR (l : List UInt8) : R := if 4096 < l.length then .bad 4096 4 else sc l 0
def StopAt (l : List UInt8) (p : Nat) : Prop := ∀ h : p < l.length, blkB l[p] = false ∧ comAt l p = false
def ScRel (s : ByteArray) (w : World) (r : R) (v i : Value) (wr : World) : Prop :=
  ∃ (ts : List Tok) (p : Nat), p ≤ s.size ∧ ts.length ≤ p ∧ i = .int .i64 p ∧ Hid (r = (sc s.data.toList p).pre ts) ∧ Hid (StopAt s.data.toList p) ∧ Hid (wr.ownsRow w.heap.size 108 3 v ts.length (cellsT ts)) ∧ Below w.heap.size w wr
theorem own_below {w w' : World} {base : Nat} {e : TypeId} {size : Nat} {v : Value} {n : Nat} {xs : List Value} (h : w.ownsRow base e size v n xs) (hb : Below w.heap.size w w') : w'.ownsRow base e size v n xs :=
  h.kept (row := none) ⟨hb.os, hb.tape, hb.output, hb.size, fun i hi _ => hb.block i hi⟩ (by cases v.ownBlock <;> simp)
theorem own_lt {w : World} {base : Nat} {e : TypeId} {size : Nat} {v : Value} {n : Nat} {xs : List Value} (h : w.ownsRow base e size v n xs) (g : Nat) (hg : w.heap.size ≤ g) : some g ≠ v.ownBlock :=
  fun e => by have := h.lt g e.symm; omega
theorem tok_info : (Tryz.prog.info? 108).map (fun i => (i.zero, i.size, i.bytes)) = some (some (.agg #[.int .i64 0, .string ⟨#[]⟩, .int .i64 0]), 3, 32) := by kernel_rfl

theorem news3 (w : World) (A : Array Value) (t e : TypeId) (a b c : Value) : ∀ j u, [a, b, c][j]? = some u → ((w.alloc (.cells A t)).alloc (.cells #[a, b, c] e)).cell? ((⟨w.heap.size + 1, 0, none⟩ : Addr).add j) = some u := by
  have h := heap_alloc_new (w.alloc (.cells A t)) (.cells #[a, b, c] e)
  rw [show (w.alloc (.cells A t)).heap.size = w.heap.size + 1 by simp] at h
  exact World.news_of_block h

theorem cell_first (w : World) (A B : Array Value) (t e : TypeId) (j : Nat) : ((w.alloc (.cells A t)).alloc (.cells B e)).cell? ⟨w.heap.size, j, none⟩ = A[j]? := by
  have h := heap_alloc_new w (.cells A t)
  have h2 := (Below.heap_alloc (w.alloc (.cells A t)) (.cells B e) w.heap.size (by simp)).trans h
  exact cell_of_row _ w.heap.size j A t (0, 0) h2
theorem skip_to (s : ByteArray) (i : Int) (p q : Nat) (w : World) (hs : s.size ≤ 281474976710656) (hp : p ≤ s.size) (hi : Hid (i = p)) (hq : Hid (skipAt s.data.toList p = q)) :
    Calls Tryz.prog 87 #[.string s, .int .i64 i] w fun e w' => e = .returned (.int .i64 q) ∧ w = w' := by
  rw [hi.out]; exact skip_any s p q w hs hp hq

set_option maxRecDepth 100000 in
set_option maxHeartbeats 400000 in
theorem scan_any (s : ByteArray) (r : R) (w : World) (G : Good w) (hs : s.size ≤ 281474976710656) (hr : Hid (scanR s.data.toList = r)) : Calls Tryz.prog 53 #[.string s] w (ScanQ r w) := by
  by_cases hl : 4096 < s.size
  · have hi : (4096 : Int) < (s.size : Int) := by omega
    have HQ : Hid (R.bad 4096 4 = r) := by
      show _ = _
      rw [← hr.out, scanR, len_size, if_pos hl]
    have := HQ.out
    subst this
    go_enter Tryz.func53, Tryz.ntmps53
    go_wp2_with fail
    refine bodyPost_ret (v := .tuple #[.slice none 0 0, .int .i64 4096, .int .i64 4]) (by simp [results, Tryz.results53, go_sem]) rfl ⟨Below.refl _ _, rfl⟩
  · have hi : ¬ (4096 : Int) < (s.size : Int) := by omega
    have hsk := skip_all s.data.toList s.data.toList.length 0 (by omega) (Nat.zero_le _)
    obtain ⟨p0, hp0⟩ : ∃ p, skipAt s.data.toList 0 = p := ⟨_, rfl⟩
    rw [hp0] at hsk
    obtain ⟨k1, k2, k3, k4⟩ := hsk
    have HR : Hid (r = (sc s.data.toList p0).pre []) := by
      show _ = _
      rw [← hr.out, scanR, len_size, if_neg hl, k1, R.pre_nil]
    have HP0 := Lib.hid hp0
    have H4 : Hid (StopAt s.data.toList p0) := k4
    rw [len_size] at k3
    have hsk0 : Calls Tryz.prog 87 #[.string s, .int .i64 0] w fun e w' => e = .returned (.int .i64 p0) ∧ w = w' := skip_any s 0 p0 w hs (Nat.zero_le _) HP0
    have HSK := Lib.hid hsk0
    obtain ⟨i0, hi0, hz0, hz1, hz2⟩ := info_parts tok_info
    have HI0 := Lib.hid hi0
    have HZ0 := Lib.hid hz0
    have HZ1 := Lib.hid hz1
    have HZ2 := Lib.hid hz2
    clear hp0 k1 k4 k2 hr hsk0 hi0 hz0 hz1 hz2
    go_enter Tryz.func53, Tryz.ntmps53
    go_wp2_with (go_at_call 87; refine HSK.out.mono ?_; rintro e w' ⟨rfl, rfl⟩)
    go_loopw [5, 6] (fun v i wr => ScRel s w r v i wr) (fun _ i _ => s.size - (intOf i).toNat)
    case atStart => exact ⟨[], p0, k3, Nat.zero_le _, rfl, HR, H4, World.ownsRow_nil _ _ _ _, Below.refl _ _⟩
    case round =>
      obtain ⟨ts, p, hp, hts, rfl, HRR, HST, HOWN, hb⟩ := hrel
      by_cases hlt : p < s.size
      · obtain ⟨a, x, b, c, hf⟩ := tkOf_form s p (tokAt s.data.toList p)
        have HF := Lib.hid hf
        have Gr := G.below hb
        obtain ⟨hst1, hst2⟩ := HST.out (by rw [len_size]; exact hlt)
        by_cases he : (tokAt s.data.toList p).err = 0
        · have hsc := sc_tok (l := s.data.toList) (by rw [len_size]; exact hlt) hst1 hst2 he
          have hln := tokAt_len (l := s.data.toList) (by rw [len_size]; exact hlt) he
          unfold tkOf at hf
          rw [if_pos he] at hf
          obtain ⟨m, hm⟩ : ∃ m, (tokAt s.data.toList p).len = m := ⟨_, rfl⟩
          obtain ⟨kd, hkd⟩ : ∃ m, (tokAt s.data.toList p).kind = m := ⟨_, rfl⟩
          rw [hm] at hln hsc hf
          rw [hkd] at hsc hf
          simp only [tkV, Value.tuple.injEq, Array.mk.injEq, List.cons.injEq, Value.agg.injEq, Value.int.injEq, Value.string.injEq, and_true, true_and] at hf
          obtain ⟨⟨rfl, hx, rfl⟩, rfl⟩ := hf
          rw [len_size] at hln
          have hxl : x.size = m := by rw [← hx, ← len_size, cut_extract, List.length_take, List.length_drop, len_size]; omega
          have hxt : x = ⟨((s.data.toList.drop p).take m).toArray⟩ := Go.WideShapes.bytes_inj (by rw [← hx, cut_extract, show p + m - p = m by omega])
          have HSC := Lib.hid hsc
          have HXT := Lib.hid hxt
          have HXL := Lib.hid hxl
          clear hsc hx hxt hm hkd he hst1 hst2 hxl
          go_wp2_with fail
          refine (tokenAt_any s p kd x p 0 _ hs hlt Gr HF).mono ?_
          rintro e w1 ⟨rfl, hb1⟩
          clear HF Gr
          have HO1 := Lib.hid (own_below HOWN.out hb1)
          have hb2 := hb.trans (hb1.mono hb.size)
          go_wp2_with (at_builtin; refine Hid.out ?_)
          refine Lib.hid ?_
          refine wpList_append_lies _ rfl (.tmp 28) (.tmp 30) _ rfl w.heap.size 108 i0 _ 3 32 Tryz.underlying68 HI0.out HZ0.out HZ1.out HZ2.out rfl (by omega) u5 ts.length (cellsT ts) rfl (by exact (HO1.out.alloc _).alloc _) ⟨w1.heap.size + 1, 0, none⟩ 1 1 [.int .i64 kd, .string x, .int .i64 p] rfl rfl (by exact news3 w1 _ 108 108 _ _ _) (by simp [Value.oneCell']) (by omega) (by simp only [maxLen]; omega) (by omega) (by simp; have := hb2.size; omega) (w1.heap.size + 2) (by simp) ?_
          intro g cap w2 hown2 hg2 hat2 hlt2
          have hne := own_lt HOWN.out w1.heap.size hb1.size
          have hcx : w2.cell? ⟨w1.heap.size, 1, none⟩ = some (.string x) := by
            rw [hg2.cell_far ⟨w1.heap.size, 1, none⟩ (by simp; omega) hne, cell_first]; rfl
          have hb3 : Below w.heap.size w w2 := ((hb2.alloc hb2.size _).alloc (by simp; have := hb2.size; omega) _).grown hg2 (by simp; have := hb2.size; omega) (fun k hk => (HOWN.out.lt k hk).1)
          rw [HXT.out] at hown2
          have hown3 : w2.ownsRow w.heap.size 108 3 (.slice (some ⟨g, 0, none⟩) (ts.length + 1) cap) (ts ++ [Tok.mk kd ((s.data.toList.drop p).take m) p]).length (cellsT (ts ++ [Tok.mk kd ((s.data.toList.drop p).take m) p])) := by
            rw [cellsT_snoc, List.length_append]; exact hown2
          have HO3 := Lib.hid hown3
          clear hown2 hown3 hg2 hat2 hne
          obtain ⟨q, hq⟩ : ∃ q, skipAt s.data.toList (p + m) = q := ⟨_, rfl⟩
          have hsk := skip_all s.data.toList s.data.toList.length (p + m) (by omega) (by rw [len_size]; omega)
          rw [hq] at hsk
          obtain ⟨k1, k2, k3', k4⟩ := hsk
          rw [len_size] at k3'
          have HQ := Lib.hid hq
          have HST2 : Hid (StopAt s.data.toList q) := k4
          have HR2 : Hid (r = (sc s.data.toList q).pre (ts ++ [Tok.mk kd ((s.data.toList.drop p).take m) p])) := by
            show _ = _
            rw [HRR.out, HSC.out, R.pre_pre, k1]
          have HPM : Hid ((p : Int) + (x.size : Int) = ((p + m : Nat) : Int)) := by
            show _ = _
            have := HXL.out
            omega
          have hxb : x.size ≤ 4096 := by have := HXL.out; omega
          clear hq k1 k4
          go_wp2_with (go_at_call 87; refine (skip_to s _ (p + m) q _ hs hln.2 HPM HQ).mono ?_; rintro e w' ⟨rfl, rfl⟩)
          go_roundw
          case rel => exact ⟨_, q, k3', by rw [List.length_append]; simp; omega, rfl, HR2, HST2, HO3, hb3⟩
          case measure => simp [intOf]; omega
        · have hsc := sc_bad (l := s.data.toList) (by rw [len_size]; exact hlt) hst1 hst2 he
          unfold tkOf at hf
          rw [if_neg he] at hf
          obtain ⟨er, her⟩ : ∃ er, (tokAt s.data.toList p).err = er := ⟨_, rfl⟩
          rw [her] at hsc hf he
          simp only [tkV, Value.tuple.injEq, Array.mk.injEq, List.cons.injEq, Value.agg.injEq, Value.int.injEq, Value.string.injEq, and_true, true_and] at hf
          obtain ⟨⟨rfl, rfl, rfl⟩, rfl⟩ := hf
          have HR2 : Hid (R.bad p er = r) := by
            show _ = _
            rw [HRR.out, hsc]; rfl
          have := HR2.out
          subst this
          have hne : ((er : Int) != 0) = true := by simpa using he
          clear hsc her he hst1 hst2 HRR
          go_wp2_with fail
          refine (tokenAt_any s p 0 ⟨#[]⟩ 0 er _ hs hlt Gr HF).mono ?_
          rintro e w1 ⟨rfl, hb1⟩
          clear HF Gr
          have hb2 := hb.trans (hb1.mono hb.size)
          go_wp2_with fail
          refine bodyPost_ret (v := .tuple #[.slice none 0 0, .int .i64 p, .int .i64 er]) (by simp [results, Tryz.results53, go_sem]) rfl ⟨hb2.alloc hb2.size _, rfl⟩
      · have HR2 : Hid (R.ok ts = r) := by
          show _ = _
          rw [HRR.out, sc_end (by rw [len_size]; omega)]; simp [R.pre]
        have := HR2.out
        subst this
        clear HRR
        go_wp2_with fail
        refine bodyPost_ret (v := .tuple #[u5, .int .i64 0, .int .i64 0]) (by simp [results, Tryz.results53, go_sem]) rfl ⟨hb, u5, rfl, HOWN.out⟩

end Go.Proofs.YtkahbhfbgdbnfaaGreatDoor

/-
  WORDS AND CONTRACT: the shower: the texts that it has gathered; what keeps it; add. Nobody but the shower's own blocks has turned.
-/
namespace Go.Proofs.YtkahbhfbgdbnfaaGreatDoor
open Go.RowKit

abbrev Tx := List UInt8
def strL (xs : List Tx) : List Value := xs.map fun l => .string ⟨l.toArray⟩
abbrev PowIn (w : World) : Prop := Lib.TabIs Tryz.prog w "internal/strconv.uint64pow10" .u64 Lib.pow10Tab
theorem gPow6 : Tryz.prog.globalNamed "internal/strconv.uint64pow10" = some 6 := by kernel_rfl
theorem pow_below {w w' : World} (h : PowIn w) (hb : Below 8 w w') : PowIn w' := var?_below hb gPow6 (by omega) h

structure SH (w : World) (sb : Nat) (v : Value) (xs : List Tx) : Prop where
  lt : sb < w.heap.size
  c0 : w.cell? ⟨sb, 0, none⟩ = some v
  fr : w.frozen? ⟨sb, 0, none⟩ = false
  own : w.ownsRow (sb + 1) 9 1 v xs.length (strL xs)
  good : Good w
  pow : PowIn w
  sb8 : 8 ≤ sb
structure SG (sb : Nat) (v : Value) (w w' : World) : Prop where
  os : w'.os = w.os
  tape : w'.tape = w.tape
  output : w'.output = w.output
  size : w.heap.size ≤ w'.heap.size
  blk : ∀ k, k < w.heap.size → k ≠ sb → v.ownBlock ≠ some k → w'.heap[k]? = w.heap[k]?
/-- From w on the shower has come so far. -/
structure SST (sb : Nat) (v : Value) (w : World) (v' : Value) (w' : World) (xs : List Tx) : Prop where
  sh : SH w' sb v' xs
  sg : SG sb v w w'
  nv : ∀ g, v'.ownBlock = some g → v.ownBlock = some g ∨ w.heap.size ≤ g
def SQ (sb : Nat) (v : Value) (w : World) (xs : List Tx) (e : Ending) (w' : World) : Prop := ∃ v', e = .returned (.tuple #[]) ∧ SST sb v w v' w' xs

theorem SST.refl {sb : Nat} {v : Value} {w : World} {xs : List Tx} (h : SH w sb v xs) : SST sb v w v w xs := ⟨h, ⟨rfl, rfl, rfl, Nat.le_refl _, fun _ _ _ _ => rfl⟩, fun _ h => .inl h⟩
theorem SG.below {sb : Nat} {v : Value} {w w' : World} (hb : Below w.heap.size w w') : SG sb v w w' := ⟨hb.os, hb.tape, hb.output, hb.size, fun k hk _ _ => hb.block k hk⟩
theorem SH.below {w w' : World} {sb : Nat} {v : Value} {xs : List Tx} (h : SH w sb v xs) (hb : Below w.heap.size w w') : SH w' sb v xs :=
  ⟨Nat.lt_of_lt_of_le h.lt hb.size, (hb.cell (p := ⟨sb, 0, none⟩) h.lt).trans h.c0, (hb.frozen (p := ⟨sb, 0, none⟩) h.lt).trans h.fr, own_below h.own hb, h.good.below hb, pow_below h.pow (hb.mono h.good.size), h.sb8⟩
theorem SST.trans {sb : Nat} {v v1 v2 : Value} {w w1 w2 : World} {xs ys : List Tx} (h : SST sb v w v1 w1 xs) (k : SST sb v1 w1 v2 w2 ys) : SST sb v w v2 w2 ys := by
  refine ⟨k.sh, ⟨k.sg.os.trans h.sg.os, k.sg.tape.trans h.sg.tape, k.sg.output.trans h.sg.output, Nat.le_trans h.sg.size k.sg.size, fun b hb h1 h2 => ?_⟩, fun g hg => ?_⟩
  · refine (k.sg.blk b (Nat.lt_of_lt_of_le hb h.sg.size) h1 (fun e => ?_)).trans (h.sg.blk b hb h1 h2)
    rcases h.nv b e with h3 | h3
    · exact h2 h3
    · omega
  · rcases k.nv g hg with h3 | h3
    · exact h.nv g h3
    · exact .inr (Nat.le_trans h.sg.size h3)
theorem SST.below {sb : Nat} {v v1 : Value} {w w1 w2 : World} {xs : List Tx} (h : SST sb v w v1 w1 xs) (hb : Below w1.heap.size w1 w2) : SST sb v w v1 w2 xs :=
  h.trans ⟨h.sh.below hb, SG.below hb, fun _ h => .inl h⟩
/-- Blocks below the shower's stay. -/
theorem SG.low {sb : Nat} {v : Value} {w w' : World} {xs : List Tx} (h : SG sb v w w') (hs : SH w sb v xs) : Below sb w w' :=
  ⟨h.os, h.tape, h.output, h.size, fun k hk => h.blk k (Nat.lt_trans hk hs.lt) (by omega) (fun e => by have := (hs.own.lt k e).1; omega)⟩
theorem NodeAt.low {pl : Nat → Nat} {w w' : World} {sb b : Nat} {t : Tree} (h : NodeAt (fun x => x < sb) pl w b t) (hb : Below sb w w') : NodeAt (fun x => x < sb) pl w' b t :=
  h.kept ⟨hb.size, fun b hb1 _ => hb.block b hb1⟩
/-- A variable's block that is none of the shower's. -/
theorem PtrAt.sg {w w' : World} {sb b : Nat} {v : Value} {x : Option Addr} (h : PtrAt w b x) (hg : SG sb v w w') (h1 : b ≠ sb) (h2 : v.ownBlock ≠ some b) : PtrAt w' b x :=
  ⟨Nat.lt_of_lt_of_le h.lt hg.size, (World.cell?_of_block (w := w) (hg.blk b h.lt h1 h2)).trans h.c0, (World.frozen?_of_block (w := w) (hg.blk b h.lt h1 h2)).trans h.f0⟩

theorem str_info : (Tryz.prog.info? 9).map (fun i => (i.zero, i.size, i.bytes)) = some (some (.string ⟨#[]⟩), 1, 16) := by kernel_rfl

set_option maxRecDepth 100000 in
set_option maxHeartbeats 400000 in
theorem add_any (w : World) (sb : Nat) (v : Value) (xs : List Tx) (ad m : Nat) (ys : List Tx) (h : SH w sb v xs) (hm : Hid (ys.length = m)) (hys : Hid (∀ j y, ys[j]? = some y → w.cell? ⟨ad, j, none⟩ = some (.string ⟨y.toArray⟩))) (h0 : 0 < m) (hl : xs.length + m ≤ 1000000) :
    Calls Tryz.prog 70 #[.pointer (some ⟨sb, 0, none⟩), .slice (some ⟨ad, 0, none⟩) m m] w (SQ sb v w (xs ++ ys)) := by
  obtain ⟨i0, hi0, hz0, hz1, hz2⟩ := info_parts str_info
  have HI0 := Lib.hid hi0
  have HZ0 := Lib.hid hz0
  have HZ1 := Lib.hid hz1
  have HZ2 := Lib.hid hz2
  have H := Lib.hid h
  have c0 := h.c0
  have fr := h.fr
  have hlt := h.lt
  have HX : Hid (xs.length = (strL xs).length) := by show _ = _; simp [strL]
  clear h hi0 hz0 hz1 hz2
  go_enter Tryz.func70, Tryz.ntmps70
  go_wp2_with (at_builtin; refine Hid.out ?_)
  refine Lib.hid ?_
  refine wpList_append_lies _ rfl (.tmp 8) (.tmp 9) _ rfl (sb + 1) 9 i0 _ 1 16 Tryz.underlying63 HI0.out HZ0.out HZ1.out HZ2.out rfl (by omega) v xs.length (strL xs) rfl H.out.own ⟨ad, 0, none⟩ m m (strL ys) rfl (by simp [strL, hm.out]) ?_ ?_ h0 (by simp only [maxLen]; omega) (by omega) (by omega) w.heap.size rfl ?_
  · intro j u hu
    unfold strL at hu
    rw [List.getElem?_map] at hu
    cases hj : ys[j]? with
    | none => rw [hj] at hu; cases hu
    | some y =>
      rw [hj] at hu
      obtain rfl := Option.some.inj hu
      have := hys.out j y hj
      have e : (⟨ad, 0, none⟩ : Addr).add j = ⟨ad, j, none⟩ := by cases j <;> simp [Addr.add]
      rw [e]
      exact this
  · intro u hu
    unfold strL at hu
    obtain ⟨y, -, rfl⟩ := List.mem_map.1 hu
    rfl
  intro g cap w2 hown hg hat hlt2
  have hne : v.ownBlock ≠ some sb := fun e => by have := (H.out.own.lt sb e).1; omega
  have c2 := (hg.cell_far ⟨sb, 0, none⟩ hlt (fun e => hne e.symm)).trans c0
  have f2 := (hg.frozen_far ⟨sb, 0, none⟩ hlt (fun e => hne e.symm)).trans fr
  have HO := Lib.hid hown
  have HG := Lib.hid hg
  have HAT := Lib.hid hat
  clear hown hg hat hys
  go_wp2_with fail
  refine bodyPost_end (v := .tuple #[]) (by simp [results, Tryz.results70, go_sem]) rfl ?_
  have hgs := (HO.out.lt g rfl).1
  have hset := kb_set w2 ⟨sb, 0, none⟩ (.slice (some ⟨g, 0, none⟩) (xs.length + m) cap)
  have hlow : Below 8 w (w2.setCell ⟨sb, 0, none⟩ (.slice (some ⟨g, 0, none⟩) (xs.length + m) cap)) := by
    have h8 := H.out.sb8
    have a := low_grown HG.out (fun b e => by have := (H.out.own.lt b e).1; omega) H.out.good.size
    have b := low_grown hset (fun b e => by have h9 : sb = b := Option.some.inj e; omega) (Nat.le_trans H.out.good.size HG.out.size)
    exact a.trans b
  refine ⟨.slice (some ⟨g, 0, none⟩) (xs.length + m) cap, rfl, ⟨Nat.lt_of_lt_of_le hlt (Nat.le_trans HG.out.size hset.size), World.cell?_setCell_same _ _ _ c2, (World.frozen?_setCell _ _ _ _).trans f2, ?_, H.out.good.low hlow, pow_below H.out.pow hlow, H.out.sb8⟩, ⟨HG.out.os, HG.out.tape, HG.out.output, Nat.le_trans HG.out.size hset.size, ?_⟩, ?_⟩
  · have := HO.out.kept hset (.inr (fun e => by have h9 : g = sb := Option.some.inj e; omega))
    unfold strL at this ⊢
    rw [List.map_append, List.length_append]
    rw [hm.out]
    exact this
  · intro k hk h1 h2
    exact (hset.block k (Nat.lt_of_lt_of_le hk HG.out.size) (fun e => h1 (Option.some.inj e))).trans (HG.out.block k hk (fun e => h2 e.symm))
  · intro g' hg'
    have h9 : g = g' := Option.some.inj hg'
    subst h9
    rcases HAT.out with e | e
    · exact .inl e
    · exact .inr (by omega)

end Go.Proofs.YtkahbhfbgdbnfaaGreatDoor

/-
  CONTRACTS: named, fieldName, expr, bracketed, creation, input of the reader. Nobody but the reader's own block has turned.
-/
namespace Go.Proofs.YtkahbhfbgdbnfaaGreatDoor
open Go.RowKit

set_option maxRecDepth 100000 in
set_option maxHeartbeats 400000 in
theorem named_any (E : Env) (w : World) (i d : Nat) (c : Callee) (op : Nat) (hop : op < 1000) (r : Res Tree) (h : RD E w i d) (hr : Hid (runW E.T c (named op) i = some r)) :
    Calls Tryz.prog 91 #[.pointer (some ⟨E.rb, 0, none⟩), .int .i64 op] w (Q E w d (VN E w.heap.size) r) := by
  have H := Lib.hid h
  have hr1 := h.lt
  have hf0 := tok_kind
  have hf1 := tok_text
  have hf2 := tok_at
  have S0 := Lib.hid (ST.below (ST.refl h) (b1 w (.cells #[.pointer none] 25)))
  have P0 := Lib.hid (PtrAt.new w none)
  have l0 := P0.out.lt
  clear h
  go_enter Tryz.func91, Tryz.ntmps91
  go_wp2_with fail
  generalize w.alloc (.cells #[.pointer none] 25) = wa at *
  rcases bind_cases hr.out with ⟨j1, er, hx, hq⟩ | ⟨a1, j1, hx, hq⟩
  · exact (typed_any E _ i d op c _ S0.out.1 hop hx).mono fun e w' h => by obtain ⟨rfl, hg⟩ := h; exact ⟨rfl, by rw [hq]; exact ⟨rfl, S0.out.2.trans hg⟩⟩
  refine (typed_any E _ i d op c _ S0.out.1 hop hx).mono ?_
  rintro e w1 ⟨v1, rfl, ⟨nb1, hv, hn⟩, hst⟩
  obtain rfl := hv
  unfold nodeV
  have P0' := Lib.hid (P0.out.kept hst.2 (by omega))
  clear P0
  have P0 := P0'
  clear P0'
  have N1 := Lib.hid (hn.from (B := w.heap.size) (by omega))
  clear hn
  have S1 := Lib.hid (S0.out.trans hst)
  have z1 := hst.2.size
  clear hst
  have HR1 := Lib.hid hq
  clear hx hq
  have V := Lib.hid (PtrAt.new w1 (some ⟨nb1, 0, none⟩))
  have P0' := Lib.hid (P0.out.below (b1 w1 (.cells #[.pointer (some ⟨nb1, 0, none⟩)] 25)))
  clear P0
  have P0 := P0'
  clear P0'
  have N1' := Lib.hid (N1.out.bl (b1 w1 (.cells #[.pointer (some ⟨nb1, 0, none⟩)] 25)))
  clear N1
  have N1 := N1'
  clear N1'
  have S2 := Lib.hid (S1.out.below (b1 w1 (.cells #[.pointer (some ⟨nb1, 0, none⟩)] 25)))
  have z2 := (b1 w1 (.cells #[.pointer (some ⟨nb1, 0, none⟩)] 25)).size
  have y2 : w1.heap.size < (w1.alloc (.cells #[.pointer (some ⟨nb1, 0, none⟩)] 25)).heap.size := by simp
  go_wp2_with fail
  generalize w1.alloc (.cells #[.pointer (some ⟨nb1, 0, none⟩)] 25) = w2 at *
  rcases bind_cases HR1.out with ⟨j3, er, hx, hq⟩ | ⟨a3, j3, hx, hq⟩
  · exact (need_any E _ j1 d ⟨#[59]⟩ c _ S2.out.1 (Lib.hid (by decide)) hx).mono fun e w' h => by obtain ⟨rfl, hg⟩ := h; exact ⟨rfl, by rw [hq]; exact ⟨rfl, S2.out.2.trans hg⟩⟩
  refine (need_any E _ j1 d ⟨#[59]⟩ c _ S2.out.1 (Lib.hid (by decide)) hx).mono ?_
  rintro e w3 ⟨v3, rfl, -, hst⟩
  have P0' := Lib.hid (P0.out.kept hst.2 (by omega))
  clear P0
  have P0 := P0'
  clear P0'
  have N1' := Lib.hid (N1.out.st hst.2 (by omega))
  clear N1
  have N1 := N1'
  clear N1'
  have V' := Lib.hid (V.out.kept hst.2 (by omega))
  clear V
  have V := V'
  clear V'
  have S3 := Lib.hid (S2.out.trans hst)
  have z3 := hst.2.size
  clear hst
  have HR3 := Lib.hid hq
  clear hx hq
  have HQ : Hid (r = .ok a1 j3) := (Option.some.inj HR3.out).symm
  have V0 := V.out.c0
  have q0 := P0.out.c0
  have f0 := P0.out.f0
  go_wp2_with fail
  refine bodyPost_ret (v := nodeV nb1) (by unfold nodeV; simp [results, Tryz.results91, go_sem, q0]) rfl ?_
  rw [HQ.out]
  exact pass_done H.out S3.out N1.out (by omega) _

set_option maxRecDepth 100000 in
set_option maxHeartbeats 400000 in
theorem fieldName_any (E : Env) (w : World) (i d : Nat) (c : Callee) (r : Res (Nat × List UInt8)) (h : RD E w i d) (hr : Hid (runW E.T c (fieldName) i = some r)) :
    Calls Tryz.prog 224 #[.pointer (some ⟨E.rb, 0, none⟩)] w (Q E w d (VW E) r) := by
  have H := Lib.hid h
  have hr1 := h.lt
  have hf0 := tok_kind
  have hf1 := tok_text
  have hf2 := tok_at
  have S0 := Lib.hid (ST.below (ST.refl h) (b1 w (.cells #[.int .i64 0, .string ⟨#[]⟩, .int .i64 0] 108)))
  have P0 := Lib.hid (TokAt.new w 0 ⟨#[]⟩ 0)
  have l0 := P0.out.lt
  clear h
  go_enter Tryz.func224, Tryz.ntmps224
  go_wp2_with fail
  generalize w.alloc (.cells #[.int .i64 0, .string ⟨#[]⟩, .int .i64 0] 108) = wa at *
  rcases bind_cases hr.out with ⟨j1, er, hx, hq⟩ | ⟨a1, j1, hx, hq⟩
  · exact (need_any E _ i d ⟨#[46]⟩ c _ S0.out.1 (Lib.hid (by decide)) hx).mono fun e w' h => by obtain ⟨rfl, hg⟩ := h; exact ⟨rfl, by rw [hq]; exact ⟨rfl, S0.out.2.trans hg⟩⟩
  refine (need_any E _ i d ⟨#[46]⟩ c _ S0.out.1 (Lib.hid (by decide)) hx).mono ?_
  rintro e w1 ⟨v1, rfl, -, hst⟩
  have P0' := Lib.hid (P0.out.kept hst.2 (by omega))
  clear P0
  have P0 := P0'
  clear P0'
  have S1 := Lib.hid (S0.out.trans hst)
  have z1 := hst.2.size
  clear hst
  have HR1 := Lib.hid hq
  clear hx hq
  go_wp2_with fail
  rcases last_cases HR1.out with ⟨j2, er, hx, hq⟩ | ⟨a2, j2, hx, hq⟩
  · exact (word_any E _ j1 d c _ S1.out.1 hx).mono fun e w' h => by obtain ⟨rfl, hg⟩ := h; exact ⟨rfl, by rw [hq]; exact ⟨rfl, S1.out.2.trans hg⟩⟩
  refine (word_any E _ j1 d c _ S1.out.1 hx).mono ?_
  rintro e w2 ⟨v2, rfl, ⟨hv, htx⟩, hst⟩
  obtain rfl := hv
  unfold tokV
  have P0' := Lib.hid (P0.out.kept hst.2 (by omega))
  clear P0
  have P0 := P0'
  clear P0'
  have X2 := Lib.hid htx
  clear htx
  have S2 := Lib.hid (S1.out.trans hst)
  have z2 := hst.2.size
  clear hst
  have HQ := Lib.hid hq
  clear hx hq
  have c0 := P0.out.c0
  have c1 := P0.out.c1
  have c2 := P0.out.c2
  have f0 := P0.out.f0
  have f1 := P0.out.f1
  have f2 := P0.out.f2
  go_wp2_with fail
  refine bodyPost_ret (v := tokV (E.T a2.1) (E.pl a2.1)) ?_ rfl ?_
  · rw [show (tokV (E.T a2.1) (E.pl a2.1)) = .agg #[.int .i64 (E.T a2.1).kind, .string ⟨(E.T a2.1).text.toArray⟩, .int .i64 (E.pl a2.1)] from rfl]
    simp [results, Tryz.results224, go_sem, c0, c1, c2]
  · rw [HQ.out]
    exact ⟨_, rfl, ⟨rfl, X2.out⟩, ST.set H.out (ST.set H.out (ST.set H.out S2.out _ _ (Nat.le_refl _) _) _ _ (Nat.le_refl _) _) _ _ (Nat.le_refl _) _⟩

set_option maxRecDepth 100000 in
set_option maxHeartbeats 400000 in
theorem expr_any (E : Env) (w : World) (i d : Nat) (n : Nat) (ih : IH E n) (r : Res Tree) (h : RD E w i d) (hr : Hid (runW E.T (P E.T n) (expr d) i = some r)) :
    Calls Tryz.prog 197 #[.pointer (some ⟨E.rb, 0, none⟩)] w (Q E w d (VN E w.heap.size) r) := by
  have H := Lib.hid h
  have hr1 := h.lt
  have hf0 := tok_kind
  have hf1 := tok_text
  have hf2 := tok_at
  have S0 := Lib.hid (ST.below (ST.refl h) (b1 w (.cells #[.pointer none] 25)))
  have P0 := Lib.hid (PtrAt.new w none)
  have l0 := P0.out.lt
  clear h
  go_enter Tryz.func197, Tryz.ntmps197
  go_wp2_with fail
  generalize w.alloc (.cells #[.pointer none] 25) = wa at *
  rcases call_cases hr.out with ⟨j1, er, hx, hq⟩ | ⟨a1, j1, hx, hq⟩
  · exact (ih.binary _ i d 1 _ (by omega) (by omega) S0.out.1 hx).mono fun e w' h => by obtain ⟨rfl, hg⟩ := h; exact ⟨rfl, by rw [hq]; exact ⟨rfl, S0.out.2.trans hg⟩⟩
  refine (ih.binary _ i d 1 _ (by omega) (by omega) S0.out.1 hx).mono ?_
  rintro e w1 ⟨v1, rfl, ⟨nb1, hv, hn⟩, hst⟩
  obtain rfl := hv
  unfold nodeV
  have P0' := Lib.hid (P0.out.kept hst.2 (by omega))
  clear P0
  have P0 := P0'
  clear P0'
  have N1 := Lib.hid (hn.from (B := w.heap.size) (by omega))
  clear hn
  have S1 := Lib.hid (S0.out.trans hst)
  have z1 := hst.2.size
  clear hst
  have HQ := Lib.hid (run_ret hq)
  clear hx hq
  have q0 := P0.out.c0
  have f0 := P0.out.f0
  go_wp2_with fail
  refine bodyPost_ret (v := nodeV nb1) (by unfold nodeV; simp [results, Tryz.results197, go_sem, q0]) rfl ?_
  rw [HQ.out]
  exact pass_done H.out S1.out N1.out (by omega) _

set_option maxRecDepth 100000 in
set_option maxHeartbeats 400000 in
theorem bracketed_any (E : Env) (w : World) (i d : Nat) (n : Nat) (ih : IH E n) (r : Res Tree) (h : RD E w i d) (hr : Hid (runW E.T (P E.T n) (brack d) i = some r)) :
    Calls Tryz.prog 199 #[.pointer (some ⟨E.rb, 0, none⟩)] w (Q E w d (VN E w.heap.size) r) := by
  have H := Lib.hid h
  have hr1 := h.lt
  have hf0 := tok_kind
  have hf1 := tok_text
  have hf2 := tok_at
  have S0 := Lib.hid (ST.below (ST.refl h) (b1 w (.cells #[.pointer none] 25)))
  have P0 := Lib.hid (PtrAt.new w none)
  have l0 := P0.out.lt
  clear h
  go_enter Tryz.func199, Tryz.ntmps199
  go_wp2_with fail
  generalize w.alloc (.cells #[.pointer none] 25) = wa at *
  rcases bind_cases hr.out with ⟨j1, er, hx, hq⟩ | ⟨a1, j1, hx, hq⟩
  · exact (enter_any E _ i d ⟨#[40]⟩ (P E.T n) _ S0.out.1 (Lib.hid (by decide)) hx).mono fun e w' h => by obtain ⟨rfl, hg⟩ := h; exact ⟨rfl, by rw [hq]; exact ⟨rfl, S0.out.2.trans hg⟩⟩
  refine (enter_any E _ i d ⟨#[40]⟩ (P E.T n) _ S0.out.1 (Lib.hid (by decide)) hx).mono ?_
  rintro e w1 ⟨v1, rfl, -, hst⟩
  have P0' := Lib.hid (P0.out.kept hst.2 (by omega))
  clear P0
  have P0 := P0'
  clear P0'
  have S1 := Lib.hid (S0.out.trans hst)
  have z1 := hst.2.size
  clear hst
  have HR1 := Lib.hid hq
  clear hx hq
  go_wp2_with fail
  rcases bind_cases HR1.out with ⟨j2, er, hx, hq⟩ | ⟨a2, j2, hx, hq⟩
  · exact (expr_any E _ j1 (d + 1) n ih _ S1.out.1 hx).mono fun e w' h => by obtain ⟨rfl, hg⟩ := h; exact ⟨rfl, by rw [hq]; exact ⟨rfl, S1.out.2.trans hg⟩⟩
  refine (expr_any E _ j1 (d + 1) n ih _ S1.out.1 hx).mono ?_
  rintro e w2 ⟨v2, rfl, ⟨nb2, hv, hn⟩, hst⟩
  obtain rfl := hv
  unfold nodeV
  have P0' := Lib.hid (P0.out.kept hst.2 (by omega))
  clear P0
  have P0 := P0'
  clear P0'
  have N2 := Lib.hid (hn.from (B := w.heap.size) (by omega))
  clear hn
  have S2 := Lib.hid (S1.out.trans hst)
  have z2 := hst.2.size
  clear hst
  have HR2 := Lib.hid hq
  clear hx hq
  have V := Lib.hid (PtrAt.new w2 (some ⟨nb2, 0, none⟩))
  have P0' := Lib.hid (P0.out.below (b1 w2 (.cells #[.pointer (some ⟨nb2, 0, none⟩)] 25)))
  clear P0
  have P0 := P0'
  clear P0'
  have N2' := Lib.hid (N2.out.bl (b1 w2 (.cells #[.pointer (some ⟨nb2, 0, none⟩)] 25)))
  clear N2
  have N2 := N2'
  clear N2'
  have S3 := Lib.hid (S2.out.below (b1 w2 (.cells #[.pointer (some ⟨nb2, 0, none⟩)] 25)))
  have z3 := (b1 w2 (.cells #[.pointer (some ⟨nb2, 0, none⟩)] 25)).size
  have y3 : w2.heap.size < (w2.alloc (.cells #[.pointer (some ⟨nb2, 0, none⟩)] 25)).heap.size := by simp
  go_wp2_with fail
  generalize w2.alloc (.cells #[.pointer (some ⟨nb2, 0, none⟩)] 25) = w3 at *
  rcases bind_cases HR2.out with ⟨j4, er, hx, hq⟩ | ⟨a4, j4, hx, hq⟩
  · exact (need_any E _ j2 (d + 1) ⟨#[41]⟩ (P E.T n) _ S3.out.1 (Lib.hid (by decide)) hx).mono fun e w' h => by obtain ⟨rfl, hg⟩ := h; exact ⟨rfl, by rw [hq]; exact ⟨rfl, S3.out.2.trans hg⟩⟩
  refine (need_any E _ j2 (d + 1) ⟨#[41]⟩ (P E.T n) _ S3.out.1 (Lib.hid (by decide)) hx).mono ?_
  rintro e w4 ⟨v4, rfl, -, hst⟩
  have P0' := Lib.hid (P0.out.kept hst.2 (by omega))
  clear P0
  have P0 := P0'
  clear P0'
  have N2' := Lib.hid (N2.out.st hst.2 (by omega))
  clear N2
  have N2 := N2'
  clear N2'
  have V' := Lib.hid (V.out.kept hst.2 (by omega))
  clear V
  have V := V'
  clear V'
  have S4 := Lib.hid (S3.out.trans hst)
  have z4 := hst.2.size
  clear hst
  have HR4 := Lib.hid hq
  clear hx hq
  go_wp2_with fail
  have HQ : Hid (r = .ok a2 j4) := (Option.some.inj HR4.out).symm
  refine (leave_any E _ j4 d S4.out.1).mono ?_
  rintro e w5 ⟨rfl, hst⟩
  have P0' := Lib.hid (P0.out.kept hst.2 (by omega))
  clear P0
  have P0 := P0'
  clear P0'
  have N2' := Lib.hid (N2.out.st hst.2 (by omega))
  clear N2
  have N2 := N2'
  clear N2'
  have V' := Lib.hid (V.out.kept hst.2 (by omega))
  clear V
  have V := V'
  clear V'
  have S5 := Lib.hid (S4.out.trans hst)
  have z5 := hst.2.size
  clear hst
  have V0 := V.out.c0
  have q0 := P0.out.c0
  have f0 := P0.out.f0
  go_wp2_with fail
  refine bodyPost_ret (v := nodeV nb2) (by unfold nodeV; simp [results, Tryz.results199, go_sem, q0]) rfl ?_
  rw [HQ.out]
  exact pass_done H.out S5.out N2.out (by omega) _

set_option maxRecDepth 100000 in
set_option maxHeartbeats 400000 in
theorem creation_any (E : Env) (w : World) (i d : Nat) (c : Callee) (r : Res Tree) (h : RD E w i d) (hr : Hid (runW E.T c (creation) i = some r)) :
    Calls Tryz.prog 222 #[.pointer (some ⟨E.rb, 0, none⟩)] w (Q E w d (VN E w.heap.size) r) := by
  have H := Lib.hid h
  have hr1 := h.lt
  have hf0 := tok_kind
  have hf1 := tok_text
  have hf2 := tok_at
  have S0 := Lib.hid (ST.below (ST.refl h) (b1 w (.cells #[.pointer none] 25)))
  have P0 := Lib.hid (PtrAt.new w none)
  have l0 := P0.out.lt
  clear h
  go_enter Tryz.func222, Tryz.ntmps222
  go_wp2_with fail
  generalize w.alloc (.cells #[.pointer none] 25) = wa at *
  rcases bind_cases hr.out with ⟨j1, er, hx, hq⟩ | ⟨a1, j1, hx, hq⟩
  · exact (need_any E _ i d ⟨#[110, 101, 119]⟩ c _ S0.out.1 (Lib.hid (by decide)) hx).mono fun e w' h => by obtain ⟨rfl, hg⟩ := h; exact ⟨rfl, by rw [hq]; exact ⟨rfl, S0.out.2.trans hg⟩⟩
  refine (need_any E _ i d ⟨#[110, 101, 119]⟩ c _ S0.out.1 (Lib.hid (by decide)) hx).mono ?_
  rintro e w1 ⟨v1, rfl, -, hst⟩
  have P0' := Lib.hid (P0.out.kept hst.2 (by omega))
  clear P0
  have P0 := P0'
  clear P0'
  have S1 := Lib.hid (S0.out.trans hst)
  have z1 := hst.2.size
  clear hst
  have HR1 := Lib.hid hq
  clear hx hq
  go_wp2_with fail
  rcases bind_cases HR1.out with ⟨j2, er, hx, hq⟩ | ⟨a2, j2, hx, hq⟩
  · exact (need_any E _ j1 d ⟨#[40]⟩ c _ S1.out.1 (Lib.hid (by decide)) hx).mono fun e w' h => by obtain ⟨rfl, hg⟩ := h; exact ⟨rfl, by rw [hq]; exact ⟨rfl, S1.out.2.trans hg⟩⟩
  refine (need_any E _ j1 d ⟨#[40]⟩ c _ S1.out.1 (Lib.hid (by decide)) hx).mono ?_
  rintro e w2 ⟨v2, rfl, -, hst⟩
  have P0' := Lib.hid (P0.out.kept hst.2 (by omega))
  clear P0
  have P0 := P0'
  clear P0'
  have S2 := Lib.hid (S1.out.trans hst)
  have z2 := hst.2.size
  clear hst
  have HR2 := Lib.hid hq
  clear hx hq
  go_wp2_with fail
  rcases bind_cases HR2.out with ⟨j3, er, hx, hq⟩ | ⟨a3, j3, hx, hq⟩
  · exact (word_any E _ j2 d c _ S2.out.1 hx).mono fun e w' h => by obtain ⟨rfl, hg⟩ := h; exact ⟨rfl, by rw [hq]; exact ⟨rfl, S2.out.2.trans hg⟩⟩
  refine (word_any E _ j2 d c _ S2.out.1 hx).mono ?_
  rintro e w3 ⟨v3, rfl, ⟨hv, htx⟩, hst⟩
  obtain rfl := hv
  unfold tokV
  have P0' := Lib.hid (P0.out.kept hst.2 (by omega))
  clear P0
  have P0 := P0'
  clear P0'
  have X3 := Lib.hid htx
  clear htx
  have S3 := Lib.hid (S2.out.trans hst)
  have z3 := hst.2.size
  clear hst
  have HR3 := Lib.hid hq
  clear hx hq
  have T := Lib.hid (TokAt.new w3 (E.T a3.1).kind ⟨(E.T a3.1).text.toArray⟩ (E.pl a3.1))
  have P0' := Lib.hid (P0.out.below (b1 w3 (.cells #[.int .i64 (E.T a3.1).kind, .string ⟨(E.T a3.1).text.toArray⟩, .int .i64 (E.pl a3.1)] 108)))
  clear P0
  have P0 := P0'
  clear P0'
  have S4 := Lib.hid (S3.out.below (b1 w3 (.cells #[.int .i64 (E.T a3.1).kind, .string ⟨(E.T a3.1).text.toArray⟩, .int .i64 (E.pl a3.1)] 108)))
  have z4 := (b1 w3 (.cells #[.int .i64 (E.T a3.1).kind, .string ⟨(E.T a3.1).text.toArray⟩, .int .i64 (E.pl a3.1)] 108)).size
  have y4 : w3.heap.size < (w3.alloc (.cells #[.int .i64 (E.T a3.1).kind, .string ⟨(E.T a3.1).text.toArray⟩, .int .i64 (E.pl a3.1)] 108)).heap.size := by simp
  go_wp2_with fail
  generalize w3.alloc (.cells #[.int .i64 (E.T a3.1).kind, .string ⟨(E.T a3.1).text.toArray⟩, .int .i64 (E.pl a3.1)] 108) = w4 at *
  rcases bind_cases HR3.out with ⟨j5, er, hx, hq⟩ | ⟨a5, j5, hx, hq⟩
  · exact (need_any E _ j3 d ⟨#[41]⟩ c _ S4.out.1 (Lib.hid (by decide)) hx).mono fun e w' h => by obtain ⟨rfl, hg⟩ := h; exact ⟨rfl, by rw [hq]; exact ⟨rfl, S4.out.2.trans hg⟩⟩
  refine (need_any E _ j3 d ⟨#[41]⟩ c _ S4.out.1 (Lib.hid (by decide)) hx).mono ?_
  rintro e w5 ⟨v5, rfl, -, hst⟩
  have P0' := Lib.hid (P0.out.kept hst.2 (by omega))
  clear P0
  have P0 := P0'
  clear P0'
  have T' := Lib.hid (T.out.kept hst.2 (by omega))
  clear T
  have T := T'
  clear T'
  have S5 := Lib.hid (S4.out.trans hst)
  have z5 := hst.2.size
  clear hst
  have HR5 := Lib.hid hq
  clear hx hq
  have HQ : Hid (r = .ok (.mk 19 a3.2 [] 0 a3.1 []) j5) := (Option.some.inj HR5.out).symm
  have T0 := T.out.c0
  have T1 := T.out.c1
  have T2 := T.out.c2
  go_wp2_with fail
  refine (newNode_any _ _ _ _ _ _ _ _ _).mono ?_
  rintro e wz ⟨rfl, hb9, hrow⟩
  have P9 := P0.out.below hb9
  have q0 := P9.c0
  have f0 := P9.f0
  have HB9 := Lib.hid hb9
  have HROW := Lib.hid hrow
  clear hb9 hrow P9
  unfold nodeV
  go_wp2_with fail
  refine bodyPost_ret (v := nodeV w5.heap.size) (by unfold nodeV; simp [results, Tryz.results222, go_sem, q0]) rfl ?_
  rw [HQ.out]
  have hrow := HROW.out
  rw [X3.out] at hrow
  exact node_done H.out S5.out (KidsIn.nil (fun x => w.heap.size < x) E.pl w5) (by omega) HB9.out hrow (by omega) (by omega) _

set_option maxRecDepth 100000 in
set_option maxHeartbeats 400000 in
theorem input_any (E : Env) (w : World) (i d : Nat) (c : Callee) (r : Res Tree) (h : RD E w i d) (hr : Hid (runW E.T c (input) i = some r)) :
    Calls Tryz.prog 223 #[.pointer (some ⟨E.rb, 0, none⟩)] w (Q E w d (VN E w.heap.size) r) := by
  have H := Lib.hid h
  have hr1 := h.lt
  have hf0 := tok_kind
  have hf1 := tok_text
  have hf2 := tok_at
  have S0 := Lib.hid (ST.below (ST.refl h) (b1 w (.cells #[.pointer none] 25)))
  have P0 := Lib.hid (PtrAt.new w none)
  have l0 := P0.out.lt
  clear h
  go_enter Tryz.func223, Tryz.ntmps223
  go_wp2_with fail
  generalize w.alloc (.cells #[.pointer none] 25) = wa at *
  rcases bind_cases hr.out with ⟨j1, er, hx, hq⟩ | ⟨a1, j1, hx, hq⟩
  · exact (need_any E _ i d ⟨#[114, 101, 97, 100]⟩ c _ S0.out.1 (Lib.hid (by decide)) hx).mono fun e w' h => by obtain ⟨rfl, hg⟩ := h; exact ⟨rfl, by rw [hq]; exact ⟨rfl, S0.out.2.trans hg⟩⟩
  refine (need_any E _ i d ⟨#[114, 101, 97, 100]⟩ c _ S0.out.1 (Lib.hid (by decide)) hx).mono ?_
  rintro e w1 ⟨v1, rfl, hv, hst⟩
  obtain rfl := hv
  unfold tokV
  have P0' := Lib.hid (P0.out.kept hst.2 (by omega))
  clear P0
  have P0 := P0'
  clear P0'
  have S1 := Lib.hid (S0.out.trans hst)
  have z1 := hst.2.size
  clear hst
  have HR1 := Lib.hid hq
  clear hx hq
  go_wp2_with fail
  rcases bind_cases HR1.out with ⟨j2, er, hx, hq⟩ | ⟨a2, j2, hx, hq⟩
  · exact (need_any E _ j1 d ⟨#[40]⟩ c _ S1.out.1 (Lib.hid (by decide)) hx).mono fun e w' h => by obtain ⟨rfl, hg⟩ := h; exact ⟨rfl, by rw [hq]; exact ⟨rfl, S1.out.2.trans hg⟩⟩
  refine (need_any E _ j1 d ⟨#[40]⟩ c _ S1.out.1 (Lib.hid (by decide)) hx).mono ?_
  rintro e w2 ⟨v2, rfl, -, hst⟩
  have P0' := Lib.hid (P0.out.kept hst.2 (by omega))
  clear P0
  have P0 := P0'
  clear P0'
  have S2 := Lib.hid (S1.out.trans hst)
  have z2 := hst.2.size
  clear hst
  have HR2 := Lib.hid hq
  clear hx hq
  go_wp2_with fail
  rcases bind_cases HR2.out with ⟨j3, er, hx, hq⟩ | ⟨a3, j3, hx, hq⟩
  · exact (need_any E _ j2 d ⟨#[41]⟩ c _ S2.out.1 (Lib.hid (by decide)) hx).mono fun e w' h => by obtain ⟨rfl, hg⟩ := h; exact ⟨rfl, by rw [hq]; exact ⟨rfl, S2.out.2.trans hg⟩⟩
  refine (need_any E _ j2 d ⟨#[41]⟩ c _ S2.out.1 (Lib.hid (by decide)) hx).mono ?_
  rintro e w3 ⟨v3, rfl, -, hst⟩
  have P0' := Lib.hid (P0.out.kept hst.2 (by omega))
  clear P0
  have P0 := P0'
  clear P0'
  have S3 := Lib.hid (S2.out.trans hst)
  have z3 := hst.2.size
  clear hst
  have HR3 := Lib.hid hq
  clear hx hq
  have HQ : Hid (r = .ok (.mk 22 [] [] 0 a1 []) j3) := (Option.some.inj HR3.out).symm
  go_wp2_with fail
  refine (newNode_any _ _ _ _ _ _ _ _ _).mono ?_
  rintro e wz ⟨rfl, hb9, hrow⟩
  have P9 := P0.out.below hb9
  have q0 := P9.c0
  have f0 := P9.f0
  have HB9 := Lib.hid hb9
  have HROW := Lib.hid hrow
  clear hb9 hrow P9
  unfold nodeV
  go_wp2_with fail
  refine bodyPost_ret (v := nodeV w3.heap.size) (by unfold nodeV; simp [results, Tryz.results223, go_sem, q0]) rfl ?_
  rw [HQ.out]
  have hrow := HROW.out
  exact node_done H.out S3.out (KidsIn.nil (fun x => w.heap.size < x) E.pl w3) (by omega) HB9.out hrow (by omega) (by omega) _

end Go.Proofs.YtkahbhfbgdbnfaaGreatDoor
