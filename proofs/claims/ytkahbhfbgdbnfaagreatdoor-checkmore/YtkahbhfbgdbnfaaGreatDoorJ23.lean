/-
  PLAIN: a wrong answer of the checker's bears an error that is not zero. No condition.
-/
import Derived.Test.YtkahbhfbgdbnfaaGreatDoorJ6
import Derived.Test.YtkahbhfbgdbnfaaGreatDoorJ21
import Derived.Test.YtkahbhfbgdbnfaaGreatDoorJ22
import Derived.Test.YtkahbhfbgdbnfaaGreatDoorJ8
namespace Go.Proofs.YtkahbhfbgdbnfaaGreatDoor
open Go.RowKit

def NE {α : Type} (r : CR α) : Prop := ∀ j e, r = .bad j e → e ≠ 0
theorem NE.ok {α : Type} (a : α) : NE (CR.ok a) := fun _ _ h => by cases h
theorem NE.bad {α : Type} (p : Nat) {e : Nat} (h : e ≠ 0) : NE (CR.bad p e : CR α) := fun _ _ g => by cases g; exact h
theorem NE.bind {α β : Type} {r : CR α} {f : α → CR β} (h : NE r) (g : ∀ a, NE (f a)) : NE (r.bind f) := by
  cases r with
  | ok a => exact g a
  | bad p e => exact NE.bad p (h p e rfl)
theorem NE.nd {α : Type} (p : Nat) (b : Bool) {e : Nat} {k : CR α} (h : e ≠ 0) (g : NE k) : NE (nd p b e k) := by
  unfold Go.Proofs.YtkahbhfbgdbnfaaGreatDoor.nd; split
  · exact g
  · exact NE.bad p h
theorem NE.all {l : List (CR ByteArray)} (h : ∀ r ∈ l, NE r) : NE (allC l) := by
  induction l with
  | nil => exact NE.ok _
  | cons a r ih => exact (h a (by simp)).bind fun _ => (ih fun x hx => h x (by simp [hx])).bind fun _ => NE.ok _
theorem NE.kid {l : List (CR ByteArray)} (h : ∀ r ∈ l, NE r) (i : Nat) : NE (kidC l i) := by
  unfold kidC
  rw [List.getD_eq_getElem?_getD]
  cases hi : l[i]? with
  | none => exact NE.ok _
  | some r => exact h r (List.mem_of_getElem? hi)
theorem var_ne (x : Inf) (K : List Fld) (p : Nat) (n : ByteArray) : NE (varC x K p n) := by
  unfold varC varOf; split
  · exact NE.ok _
  · exact NE.ok _
  · exact NE.nd _ _ (by decide) (NE.bad _ (by decide))
theorem field_ne (x : Inf) (p : Nat) (n a : ByteArray) : NE (fieldC x p n a) := by
  unfold fieldC; split
  · exact NE.bad _ (by decide)
  · unfold fieldOf; split
    · exact NE.bad _ (by decide)
    · exact NE.ok _
theorem callee_ne (x : Inf) (K : List Fld) (p : Nat) (n : ByteArray) : NE (calleeC x K p n) := by
  unfold calleeC calleeOf; split
  · exact NE.nd _ _ (by decide) (NE.nd _ _ (by decide) (NE.ok _))
  · exact NE.nd _ _ (by decide) (NE.bad _ (by decide))
theorem exprOf_ne (x : Inf) (K : List Fld) (op : Nat) (name : List UInt8) (n : Int) (p : Nat) {rs : List (CR ByteArray)} (h : ∀ r ∈ rs, NE r) : NE (exprOfC x K op name n p rs) := by
  unfold exprOfC
  split; · exact NE.ok _
  split; · exact NE.ok _
  split; · exact var_ne _ _ _ _
  split; · exact NE.nd _ _ (by decide) (NE.nd _ _ (by decide) (NE.ok _))
  split; · exact (NE.kid h 0).bind fun _ => field_ne _ _ _ _
  split; · exact (NE.all h).bind fun _ => (callee_ne _ _ _ _).bind fun _ => NE.nd _ _ (by decide) (NE.nd _ _ (by decide) (NE.ok _))
  split; · exact (NE.kid h 0).bind fun _ => NE.nd _ _ (by decide) (NE.ok _)
  split; · exact (NE.kid h 0).bind fun _ => (NE.kid h 1).bind fun _ => NE.nd _ _ (by decide) (NE.ok _)
  split; · exact (NE.kid h 0).bind fun _ => (NE.kid h 1).bind fun _ => NE.nd _ _ (by decide) (NE.ok _)
  exact NE.ok _
mutual
theorem expr_ne (x : Inf) (K : List Fld) : ∀ t, NE (exprC x K t)
  | .mk op name _ n p ks => by unfold exprC; exact exprOf_ne _ _ _ _ _ _ (exprs_ne x K ks)
theorem exprs_ne (x : Inf) (K : List Fld) : ∀ l, ∀ r ∈ exprsC x K l, NE r
  | [] => by unfold exprsC; simp
  | t :: l => by
    unfold exprsC
    intro r hr
    rcases List.mem_cons.1 hr with rfl | hr
    · exact expr_ne x K t
    · exact exprs_ne x K l r hr
end
theorem leaf_ne (x : Inf) (res : ByteArray) (K : List Fld) (f : Nat) (op : Nat) (name : List UInt8) (p : Nat) {rs : List (CR ByteArray)} (h : ∀ r ∈ rs, NE r) : NE (leafC x res K f op name p rs) := by
  unfold leafC
  split; · exact (NE.kid h 0).bind fun _ => NE.nd _ _ (by decide) (NE.nd _ _ (by decide) (NE.ok _))
  split; · exact (NE.kid h 0).bind fun _ => (var_ne _ _ _ _).bind fun _ => NE.nd _ _ (by decide) (NE.ok _)
  split; · exact (NE.kid h 0).bind fun _ => (NE.kid h 1).bind fun _ => (field_ne _ _ _ _).bind fun _ => NE.nd _ _ (by decide) (NE.ok _)
  split; · exact (NE.kid h 0).bind fun _ => NE.nd _ _ (by decide) (NE.ok _)
  split
  · split
    · exact NE.nd _ _ (by decide) (NE.ok _)
    · exact (NE.kid h 0).bind fun _ => NE.nd _ _ (by decide) (NE.ok _)
  split; · exact (NE.kid h 0).bind fun _ => NE.ok _
  exact NE.ok _
mutual
theorem stmt_ne (x : Inf) (res : ByteArray) : ∀ t K f, NE (stmtC x res t K f)
  | .mk op name _ _ p ks, K, f => by
    unfold stmtC
    split
    · exact (stmts_ne x res ks K _).bind fun _ => NE.ok _
    · split
      · exact (NE.kid (exprs_ne x K ks) 0).bind fun _ => NE.nd _ _ (by decide) (rest_ne x res ks K f)
      · exact leaf_ne _ _ _ _ _ _ _ (exprs_ne x K ks)
theorem stmts_ne (x : Inf) (res : ByteArray) : ∀ l K f, NE (stmtsC x res l K f)
  | [], K, f => by unfold stmtsC; exact NE.ok _
  | t :: r, K, f => by unfold stmtsC; exact (stmt_ne x res t K f).bind fun K' => stmts_ne x res r K' f
theorem rest_ne (x : Inf) (res : ByteArray) : ∀ l K f, NE (restC x res l K f)
  | [], K, f => by unfold restC; exact NE.ok _
  | _ :: r, K, f => by unfold restC; exact stmts_ne x res r K f
end
theorem firC_ne (ks : List Tree) (g : Nat → Nat) (n : Nat) : NE (firC ks g n) := by
  unfold firC; split
  · exact NE.ok _
  · exact NE.bad _ (by omega)
theorem types_ne (ss : List Str) (d : Tree) : NE (typesC ss d) := by
  unfold typesC; split
  · exact NE.nd _ _ (by decide) (NE.ok _)
  · exact (firC_ne _ _ _).bind fun _ => NE.nd _ _ (by decide) (NE.ok _)
theorem each_ne {f : Tree → CR Unit} (h : ∀ t, NE (f t)) (l : List Tree) : NE (eachC f l) := by
  induction l with
  | nil => exact NE.ok _
  | cons a r ih => exact (h a).bind fun _ => ih
theorem body_ne (x : Inf) (d : Tree) : NE (bodyC x d) := by
  unfold bodyC; split
  · exact (stmts_ne _ _ _ _ _).bind fun _ => NE.ok _
  · exact NE.ok _
theorem chk_ne {t : Tree} {j e : Nat} (h : checkC t = .bad j e) : e ≠ 0 := by
  have : NE (checkC t) := (firC_ne _ _ _).bind fun _ => (each_ne (types_ne _) _).bind fun _ => (each_ne (body_ne _) _).bind fun _ => NE.nd _ _ (by decide) (NE.ok _)
  exact this j e h

end Go.Proofs.YtkahbhfbgdbnfaaGreatDoor

/-
  CONTRACT: Source of package check, at every text of at most 2^48 bytes, where the listed variables lie as the program's text lays them. Of what was there nothing has turned.
-/
namespace Go.Proofs.YtkahbhfbgdbnfaaGreatDoor
open Go.RowKit

/-- What a source is: its tree and what it declares, or a place and an error. -/
inductive SRs
  | ok (ts : List Tok) (ks : List Tree) (x : Inf)
  | bad (p e : Nat)
def chkR (ts : List Tok) (n : Nat) (ks : List Tree) : CR Inf → SRs
  | .ok x => .ok ts ks x
  | .bad j e => .bad (plf ts n j) e
def srcOf (n : Nat) : PR → SRs
  | .bad p e => .bad p e
  | .ok ts ks => chkR ts n ks (checkC (root ts ks))
def sourceR (l : List UInt8) : SRs := srcOf l.length (parseR l)
def zInf : Value := .agg #[.slice none 0 0, .slice none 0 0, .slice none 0 0]
/-- What Source answers. -/
def SrcQ (l : List UInt8) (r : SRs) (w : World) (e : Ending) (w' : World) : Prop := Below w.heap.size w w' ∧ (match r with
  | .ok ts ks x => ∃ (b : Nat) (E : CE), e = .returned (.tuple #[nodeV b, infV E, .int .i64 0, .int .i64 0]) ∧ E.x = x ∧ IX E w' w.heap.size ∧ NodeAt (fun _ => True) (plf ts l.length) w' b (root ts ks)
  | .bad p er => e = .returned (.tuple #[.agg #[.pointer none], zInf, .int .i64 p, .int .i64 er]))

theorem Al.wt {W : Tx → Prop} (hW : ∀ s, W s → s.length ≤ 65536) {t : Tree} (h : Al W t) : Wt t := by
  induction h with
  | mk h hk ih =>
    have hal := (Al.mk h hk).ok.least
    refine .mk hal ?_ ih
    cases h <;> first | exact hW _ (by assumption) | exact Nat.zero_le _
theorem src_wt {l : List UInt8} {ts : List Tok} {ks : List Tree} (h : parseR l = .ok ts ks) : Wt (root ts ks) ∧ sizeT (root ts ks) ≤ 90000 ∧ TokS l ts := by
  obtain ⟨hT, hA, hs⟩ := parsed h
  refine ⟨.mk (Nat.zero_le _) (Nat.zero_le _) (fun u hu => (hA u hu).1.wt (fun s hs => ?_)), ?_, hT⟩
  · obtain ⟨k, -, rfl⟩ := hs
    have := hT.text k
    omega
  · show sizeL ks + 1 ≤ _
    have := hT.len
    have := hT.le
    omega
def envS (w : World) (pl : Nat → Nat) : CE := ⟨w, pl, infZ, tNone, none, none, none, 0, 0, 0, 0⟩

set_option maxRecDepth 100000 in
set_option maxHeartbeats 1000000 in
theorem source_any (s : ByteArray) (r : SRs) (w : World) (G : Good w) (hs : s.size ≤ 281474976710656) (hr : Hid (sourceR s.data.toList = r)) : Calls Tryz.prog 18 #[.string s] w (SrcQ s.data.toList r w) := by
  have h8 := G.size
  have B0 := Lib.hid (b2 w (.cells #[.pointer none] 25) (.cells #[.slice none 0 0, .slice none 0 0, .slice none 0 0] 44))
  have HG := Lib.hid G
  have x0 : ((w.alloc (.cells #[.pointer none] 25)).alloc (.cells #[.slice none 0 0, .slice none 0 0, .slice none 0 0] 44)).cell? ⟨w.heap.size, 0, none⟩ = some (.pointer none) := (World.cell?_alloc_lt _ _ _ (by simp)).trans (cell_new w _ 25 0)
  have r0 : ((w.alloc (.cells #[.pointer none] 25)).alloc (.cells #[.slice none 0 0, .slice none 0 0, .slice none 0 0] 44)).cell? ⟨w.heap.size + 1, 0, none⟩ = some (.slice none 0 0) := cell_second w _ _ _ _ 0
  have r1 : ((w.alloc (.cells #[.pointer none] 25)).alloc (.cells #[.slice none 0 0, .slice none 0 0, .slice none 0 0] 44)).cell? ⟨w.heap.size + 1, 1, none⟩ = some (.slice none 0 0) := cell_second w _ _ _ _ 1
  have r2 : ((w.alloc (.cells #[.pointer none] 25)).alloc (.cells #[.slice none 0 0, .slice none 0 0, .slice none 0 0] 44)).cell? ⟨w.heap.size + 1, 2, none⟩ = some (.slice none 0 0) := cell_second w _ _ _ _ 2
  have zx : ((w.alloc (.cells #[.pointer none] 25)).alloc (.cells #[.slice none 0 0, .slice none 0 0, .slice none 0 0] 44)).frozen? ⟨w.heap.size, 0, none⟩ = false := by simp [go_sem]
  have z0 : ((w.alloc (.cells #[.pointer none] 25)).alloc (.cells #[.slice none 0 0, .slice none 0 0, .slice none 0 0] 44)).frozen? ⟨w.heap.size + 1, 0, none⟩ = false := by simp [go_sem]
  have z1 : ((w.alloc (.cells #[.pointer none] 25)).alloc (.cells #[.slice none 0 0, .slice none 0 0, .slice none 0 0] 44)).frozen? ⟨w.heap.size + 1, 1, none⟩ = false := by simp [go_sem]
  have z2 : ((w.alloc (.cells #[.pointer none] 25)).alloc (.cells #[.slice none 0 0, .slice none 0 0, .slice none 0 0] 44)).frozen? ⟨w.heap.size + 1, 2, none⟩ = false := by simp [go_sem]
  have l1 : w.heap.size + 1 < ((w.alloc (.cells #[.pointer none] 25)).alloc (.cells #[.slice none 0 0, .slice none 0 0, .slice none 0 0] 44)).heap.size := by simp
  obtain ⟨pr, hpr⟩ : ∃ pr, parseR s.data.toList = pr := ⟨_, rfl⟩
  have HPR := Lib.hid hpr
  have hr' : srcOf s.data.toList.length pr = r := by rw [← hpr]; exact hr.out
  have HRR := Lib.hid hr'
  clear hpr hr hr' G
  go_enter Tryz.func18, Tryz.ntmps18
  go_wp2_with fail
  generalize (w.alloc (.cells #[.pointer none] 25)).alloc (.cells #[.slice none 0 0, .slice none 0 0, .slice none 0 0] 44) = wa at *
  have l0 : w.heap.size < wa.heap.size := by omega
  refine (parse_full s pr wa (HG.out.below B0.out) hs HPR).mono ?_
  rintro e w1 ⟨hb1, he⟩
  have x0 := keepC (Below.refl _ _) x0 l0 hb1
  have r0 := keepC (Below.refl _ _) r0 l1 hb1
  have r1 := keepC (Below.refl _ _) r1 l1 hb1
  have r2 := keepC (Below.refl _ _) r2 l1 hb1
  have zx := (hb1.frozen (p := ⟨w.heap.size, 0, none⟩) l0).trans zx
  have z0 := (hb1.frozen (p := ⟨w.heap.size + 1, 0, none⟩) l1).trans z0
  have z1 := (hb1.frozen (p := ⟨w.heap.size + 1, 1, none⟩) l1).trans z1
  have z2 := (hb1.frozen (p := ⟨w.heap.size + 1, 2, none⟩) l1).trans z2
  have B1 := Lib.hid (B0.out.trans (hb1.mono B0.out.size))
  have s1 := hb1.size
  cases pr with
  | bad p er =>
    obtain rfl := he
    have := HRR.out
    subst this
    have her := parse_err HPR.out
    have hne : ((er : Int) != 0) = true := by simp; omega
    have HF : Hid (Below w.heap.size w (((((w1.setCell ⟨w.heap.size, 0, none⟩ (.pointer none)).setCell ⟨w.heap.size + 1, 0, none⟩ (.slice none 0 0)).setCell ⟨w.heap.size + 1, 1, none⟩ (.slice none 0 0)).setCell ⟨w.heap.size + 1, 2, none⟩ (.slice none 0 0)).alloc (.cells #[.pointer none] 25))) := ((((B1.out.setCell (p := ⟨w.heap.size, 0, none⟩) (Nat.le_refl _) (.pointer none)).setCell (p := ⟨w.heap.size + 1, 0, none⟩) (Nat.le_succ _) (.slice none 0 0)).setCell (p := ⟨w.heap.size + 1, 1, none⟩) (Nat.le_succ _) (.slice none 0 0)).setCell (p := ⟨w.heap.size + 1, 2, none⟩) (Nat.le_succ _) (.slice none 0 0)).trans ((b1 _ (.cells #[.pointer none] 25)).mono ((((B1.out.setCell (p := ⟨w.heap.size, 0, none⟩) (Nat.le_refl _) (.pointer none)).setCell (p := ⟨w.heap.size + 1, 0, none⟩) (Nat.le_succ _) (.slice none 0 0)).setCell (p := ⟨w.heap.size + 1, 1, none⟩) (Nat.le_succ _) (.slice none 0 0)).setCell (p := ⟨w.heap.size + 1, 2, none⟩) (Nat.le_succ _) (.slice none 0 0)).size)
    have k0 : w.heap.size < w1.heap.size := by omega
    have k1 : w.heap.size + 1 < w1.heap.size := by omega
    clear hb1 s1
    go_wp2_with fail
    refine bodyPost_ret (v := .tuple #[.agg #[.pointer none], zInf, .int .i64 p, .int .i64 er]) (by unfold zInf; simp [results, Tryz.results18, go_sem, x0, r0, r1, r2, k0, k1]) rfl ?_
    exact ⟨HF.out, rfl⟩
  | ok ts ks =>
    obtain ⟨b, rfl, hn⟩ := he
    obtain ⟨hW, hz, hT⟩ := src_wt HPR.out
    have HN := Lib.hid hn
    have HWz := Lib.hid hW
    have hroot : Hid (plf ts s.data.toList.length (root ts ks).pos = 0) := by
      show plf ts s.data.toList.length (ts.length + 1) = 0
      unfold plf; rw [List.getElem?_eq_none (by omega)]; simp
    unfold nodeV
    obtain ⟨cr, hcr⟩ : ∃ c, checkC (root ts ks) = c := ⟨_, rfl⟩
    have HCR := Lib.hid hcr
    have hr2 : chkR ts s.data.toList.length ks cr = r := by rw [← hcr]; exact HRR.out
    have HR2 := Lib.hid hr2
    have BT := Lib.hid (b1 w1 (.cells #[.pointer (some ⟨b, 0, none⟩)] 25))
    have t0 : (w1.alloc (.cells #[.pointer (some ⟨b, 0, none⟩)] 25)).cell? ⟨w1.heap.size, 0, none⟩ = some (.pointer (some ⟨b, 0, none⟩)) := cell_new w1 _ 25 0
    have k0 : w.heap.size < w1.heap.size := by omega
    have k1 : w.heap.size + 1 < w1.heap.size := by omega
    clear hb1 hn hW hcr hr2 HRR
    go_wp2_with fail
    generalize hwb : w1.alloc (.cells #[.pointer (some ⟨b, 0, none⟩)] 25) = wb at *
    have NB : Hid (Nd (envS w1 (plf ts s.data.toList.length)) b (root ts ks)) := HN.out.weak fun _ _ _ => trivial
    refine (ccheck_any (envS w1 (plf ts s.data.toList.length)) b (root ts ks) wb NB.out BT.out (HG.out.below (B1.out.trans (BT.out.mono B1.out.size))) HWz.out hz hroot.out rfl).mono ?_
    rw [HCR.out]
    rintro e w2 ⟨hb2, he⟩
    have b2' := BT.out.trans (hb2.mono BT.out.size)
    have x0 := keepC (Below.refl _ _) x0 k0 b2'
    have r0 := keepC (Below.refl _ _) r0 k1 b2'
    have r1 := keepC (Below.refl _ _) r1 k1 b2'
    have r2 := keepC (Below.refl _ _) r2 k1 b2'
    have zx := (b2'.frozen (p := ⟨w.heap.size, 0, none⟩) k0).trans zx
    have z0 := (b2'.frozen (p := ⟨w.heap.size + 1, 0, none⟩) k1).trans z0
    have z1 := (b2'.frozen (p := ⟨w.heap.size + 1, 1, none⟩) k1).trans z1
    have z2 := (b2'.frozen (p := ⟨w.heap.size + 1, 2, none⟩) k1).trans z2
    have kt : w1.heap.size < wb.heap.size := by rw [← hwb]; simp
    have t0 := keepC (Below.refl _ _) t0 kt hb2
    have B2 := Lib.hid (B1.out.trans (b2'.mono B1.out.size))
    have N2 := Lib.hid ((HN.out.bl BT.out).bl hb2)
    have k2 : w1.heap.size < w2.heap.size := Nat.lt_of_lt_of_le kt hb2.size
    have e0 : w.heap.size < w2.heap.size := by omega
    have e1 : w.heap.size + 1 < w2.heap.size := by omega
    clear b2' hwb
    cases cr with
    | bad j er =>
      obtain rfl := he
      have := HR2.out
      subst this
      have her := chk_ne HCR.out
      have hne : ((er : Int) != 0) = true := by simp; omega
      have HF : Hid (Below w.heap.size w (((((w2.setCell ⟨w.heap.size, 0, none⟩ (.pointer none)).setCell ⟨w.heap.size + 1, 0, none⟩ (.slice none 0 0)).setCell ⟨w.heap.size + 1, 1, none⟩ (.slice none 0 0)).setCell ⟨w.heap.size + 1, 2, none⟩ (.slice none 0 0)).alloc (.cells #[.slice none 0 0, .slice none 0 0, .slice none 0 0] 44))) := ((((B2.out.setCell (p := ⟨w.heap.size, 0, none⟩) (Nat.le_refl _) (.pointer none)).setCell (p := ⟨w.heap.size + 1, 0, none⟩) (Nat.le_succ _) (.slice none 0 0)).setCell (p := ⟨w.heap.size + 1, 1, none⟩) (Nat.le_succ _) (.slice none 0 0)).setCell (p := ⟨w.heap.size + 1, 2, none⟩) (Nat.le_succ _) (.slice none 0 0)).trans ((b1 _ (.cells #[.slice none 0 0, .slice none 0 0, .slice none 0 0] 44)).mono ((((B2.out.setCell (p := ⟨w.heap.size, 0, none⟩) (Nat.le_refl _) (.pointer none)).setCell (p := ⟨w.heap.size + 1, 0, none⟩) (Nat.le_succ _) (.slice none 0 0)).setCell (p := ⟨w.heap.size + 1, 1, none⟩) (Nat.le_succ _) (.slice none 0 0)).setCell (p := ⟨w.heap.size + 1, 2, none⟩) (Nat.le_succ _) (.slice none 0 0)).size)
      clear hb2
      go_wp2_with fail
      refine bodyPost_ret (v := .tuple #[.agg #[.pointer none], zInf, .int .i64 (plf ts s.data.toList.length j), .int .i64 er]) (by unfold zInf; simp [results, Tryz.results18, go_sem, x0, r0, r1, r2, e0, e1]; rfl) rfl ?_
      exact ⟨HF.out, rfl⟩
    | ok x =>
      obtain ⟨E', hx, rfl, hI⟩ := he
      have := HR2.out
      subst this
      have HX := Lib.hid hx
      have IX2 := Lib.hid hI
      have BV := Lib.hid (b1 w2 (.cells #[.slice E'.sA E'.x.structs.length E'.sc, .slice E'.gA E'.x.globals.length E'.gc, .slice E'.fA E'.x.funs.length E'.fc] 44))
      have t2 := keepC (Below.refl _ _) t0 k2 BV.out
      obtain ⟨v0, v1, v2⟩ := infV_new E' w2
      have B3 := Lib.hid (B2.out.trans (BV.out.mono B2.out.size))
      have N3 := Lib.hid (N2.out.bl BV.out)
      have I3 := Lib.hid (IX2.out.below BV.out)
      unfold infV
      clear hI hb2 t0 hx
      have zx := (BV.out.frozen (p := ⟨w.heap.size, 0, none⟩) e0).trans zx
      have z0 := (BV.out.frozen (p := ⟨w.heap.size + 1, 0, none⟩) e1).trans z0
      have z1 := (BV.out.frozen (p := ⟨w.heap.size + 1, 1, none⟩) e1).trans z1
      have z2 := (BV.out.frozen (p := ⟨w.heap.size + 1, 2, none⟩) e1).trans z2
      have x0 := keepC (Below.refl _ _) x0 e0 BV.out
      have r0 := keepC (Below.refl _ _) r0 e1 BV.out
      have r1 := keepC (Below.refl _ _) r1 e1 BV.out
      have r2 := keepC (Below.refl _ _) r2 e1 BV.out
      have sV := BV.out.size
      go_wp2_with fail
      generalize (w2.alloc (.cells #[.slice E'.sA E'.x.structs.length E'.sc, .slice E'.gA E'.x.globals.length E'.gc, .slice E'.fA E'.x.funs.length E'.fc] 44)) = wc at *
      have g0 : w.heap.size < wc.heap.size := by omega
      have g1 : w.heap.size + 1 < wc.heap.size := by omega
      go_region
      have hok1 : wa.heap.size ≤ w1.heap.size := s1
      go_wp2_with fail
      refine bodyPost_ret (v := .tuple #[nodeV b, infV E', .int .i64 0, .int .i64 0]) (by unfold infV nodeV; simp [results, Tryz.results18, go_sem, x0, r0, r1, r2]) rfl ?_
      refine ⟨?_, b, E', rfl, HX.out, ?_, ?_⟩
      · exact ((((B3.out.setCell (p := ⟨w.heap.size, 0, none⟩) (Nat.le_refl _) _).setCell (p := ⟨w.heap.size + 1, 0, none⟩) (Nat.le_succ _) _).setCell (p := ⟨w.heap.size + 1, 1, none⟩) (Nat.le_succ _) _).setCell (p := ⟨w.heap.size + 1, 2, none⟩) (Nat.le_succ _) _).drew
      · exact (((((I3.out.set (by omega) (by omega)).set (by omega) (by omega)).set (by omega) (by omega)).set (by omega) (by omega)).below (Below.refl _ _).drew).lower (by omega)
      · exact (((((N3.out.kept (Keeps.set _ ⟨w.heap.size, 0, none⟩ _ (fun h => by have h8 : wa.heap.size ≤ w.heap.size := h; omega))).kept (Keeps.set _ ⟨w.heap.size + 1, 0, none⟩ _ (fun h => by have h8 : wa.heap.size ≤ w.heap.size + 1 := h; omega))).kept (Keeps.set _ ⟨w.heap.size + 1, 1, none⟩ _ (fun h => by have h8 : wa.heap.size ≤ w.heap.size + 1 := h; omega))).kept (Keeps.set _ ⟨w.heap.size + 1, 2, none⟩ _ (fun h => by have h8 : wa.heap.size ≤ w.heap.size + 1 := h; omega))).bl (Below.refl _ _).drew).weak fun _ _ _ => trivial

end Go.Proofs.YtkahbhfbgdbnfaaGreatDoor

/-
  CONTRACTS: Source of package check, right and wrong texts alike; has. Of what was there nothing has turned.
-/
namespace Go.Proofs.YtkahbhfbgdbnfaaGreatDoor
open Go.RowKit

def errS : SRs → Nat
  | .ok _ _ _ => 0
  | .bad _ e => e
def plcS : SRs → Nat
  | .ok _ _ _ => 0
  | .bad p _ => p
def infS : SRs → Inf
  | .ok _ _ x => x
  | .bad _ _ => infZ
/-- A variable that holds what is declared. -/
structure VI (E : CE) (w : World) (b : Nat) : Prop where
  lt : b < w.heap.size
  c0 : w.cell? ⟨b, 0, none⟩ = some (.slice E.sA E.x.structs.length E.sc)
  c1 : w.cell? ⟨b, 1, none⟩ = some (.slice E.gA E.x.globals.length E.gc)
  c2 : w.cell? ⟨b, 2, none⟩ = some (.slice E.fA E.x.funs.length E.fc)
theorem VI.below {E : CE} {w w' : World} {b : Nat} (h : VI E w b) (hb : Below w.heap.size w w') : VI E w' b :=
  ⟨Nat.lt_of_lt_of_le h.lt hb.size, (hb.cell (p := ⟨b, 0, none⟩) h.lt).trans h.c0, (hb.cell (p := ⟨b, 1, none⟩) h.lt).trans h.c1, (hb.cell (p := ⟨b, 2, none⟩) h.lt).trans h.c2⟩
theorem VI.new (E : CE) (w : World) : VI E (w.alloc (.cells #[.slice E.sA E.x.structs.length E.sc, .slice E.gA E.x.globals.length E.gc, .slice E.fA E.x.funs.length E.fc] 44)) w.heap.size :=
  ⟨by simp, cell_new w _ 44 0, cell_new w _ 44 1, cell_new w _ 44 2⟩
theorem VI.two (E : CE) (w : World) (p : Option Addr) : VI E ((w.alloc (.cells #[.pointer p] 25)).alloc (.cells #[.slice E.sA E.x.structs.length E.sc, .slice E.gA E.x.globals.length E.gc, .slice E.fA E.x.funs.length E.fc] 44)) (w.heap.size + 1) :=
  ⟨by simp, cell_second w _ _ _ _ 0, cell_second w _ _ _ _ 1, cell_second w _ _ _ _ 2⟩
def SU (r : SRs) (w : World) (e : Ending) (w' : World) : Prop := Below w.heap.size w w' ∧ ∃ (p : Option Addr) (E : CE), e = .returned (.tuple #[.agg #[.pointer p], infV E, .int .i64 (plcS r), .int .i64 (errS r)]) ∧ E.x = infS r ∧ IM E w'
theorem im_zero {w : World} (G : Good w) : IM (envS w fun _ => 0) w :=
  IX.im (lo := 0) ⟨G, Nat.zero_le _, Nat.zero_le _, Nat.zero_le _, 0, [], [], Nat.le_refl _, DR.nil w 0⟩
theorem source_uni (s : ByteArray) (r : SRs) (w : World) (G : Good w) (hs : s.size ≤ 281474976710656) (hr : Hid (sourceR s.data.toList = r)) : Calls Tryz.prog 18 #[.string s] w (SU r w) := by
  refine (source_any s r w G hs hr).mono ?_
  rintro e w' ⟨hb, h⟩
  refine ⟨hb, ?_⟩
  cases r with
  | ok ts ks x =>
    obtain ⟨b, E, rfl, hx, hI, -⟩ := h
    exact ⟨some ⟨b, 0, none⟩, E, rfl, hx, hI.im⟩
  | bad p er =>
    obtain rfl := h
    exact ⟨none, envS w' fun _ => 0, rfl, rfl, im_zero (G.below hb)⟩

def hasB (x : Inf) (n : ByteArray) : Bool := (funO x n).isSome || ((plc x.globals n).isSome || (fnd x.structs n).isSome)
set_option maxRecDepth 100000 in
set_option maxHeartbeats 400000 in
theorem has_any (E : CE) (n : ByteArray) (b : Bool) (w : World) (I : IM E w) (hb : Hid (hasB E.x n = b)) :
    Calls Tryz.prog 28 #[infV E, .string n] w fun e w' => e = .returned (.bool b) ∧ Below w.heap.size w w' := by
  have B0 := Lib.hid (b1 w (.cells #[.slice E.sA E.x.structs.length E.sc, .slice E.gA E.x.globals.length E.gc, .slice E.fA E.x.funs.length E.fc] 44))
  have V0 := VI.new E w
  have I0 := Lib.hid (I.below B0.out)
  obtain ⟨c0, c1, c2⟩ := (show _ ∧ _ ∧ _ from ⟨V0.c0, V0.c1, V0.c2⟩)
  have HV := Lib.hid V0
  clear V0 I
  have hl := I0.out.sl
  go_enter Tryz.func28, Tryz.ntmps28
  unfold infV
  go_wp2_with fail
  generalize w.alloc (.cells #[.slice E.sA E.x.structs.length E.sc, .slice E.gA E.x.globals.length E.gc, .slice E.fA E.x.funs.length E.fc] 44) = w1 at *
  refine (cfun_any E n _ w1 I0.out (Lib.hid rfl)).mono ?_
  rintro e w2 ⟨rfl, hb2⟩
  have V2 := HV.out.below hb2
  have I2 := Lib.hid (I0.out.below hb2)
  have B2 := Lib.hid (B0.out.trans (hb2.mono B0.out.size))
  obtain ⟨d0, d1, d2⟩ := (show _ ∧ _ ∧ _ from ⟨V2.c0, V2.c1, V2.c2⟩)
  have HV2 := Lib.hid V2
  clear V2 c0 c1 c2 hb2 HV I0 B0
  have hA : ∃ i, foundV (funO E.x n) = .tuple #[.int .i64 i, .bool (funO E.x n).isSome] := by cases funO E.x n <;> exact ⟨_, rfl⟩
  obtain ⟨iA, hA⟩ := hA
  rw [hA]
  go_wp2_with fail
  refine (cglobal_any E n _ w2 I2.out (Lib.hid rfl)).mono ?_
  rintro e w3 ⟨rfl, hb3⟩
  have V3 := HV2.out.below hb3
  have I3 := Lib.hid (I2.out.below hb3)
  have B3 := Lib.hid (B2.out.trans (hb3.mono B2.out.size))
  obtain ⟨d0, d1, d2⟩ := (show _ ∧ _ ∧ _ from ⟨V3.c0, V3.c1, V3.c2⟩)
  clear V3 hb3 HV2 I2 B2
  have hB : ∃ i, foundV (plc E.x.globals n) = .tuple #[.int .i64 i, .bool (plc E.x.globals n).isSome] := by cases plc E.x.globals n <;> exact ⟨_, rfl⟩
  obtain ⟨iB, hB⟩ := hB
  rw [hB]
  go_wp2_with fail
  refine (find_any E.sA E.sc _ E.x.structs n _ w3 I3.out.S (Lib.hid rfl) (by omega) (Lib.hid rfl)).mono ?_
  rintro e w4 ⟨rfl, hb4⟩
  have hC : ∃ i, foundV (fnd E.x.structs n) = .tuple #[.int .i64 i, .bool (fnd E.x.structs n).isSome] := by cases fnd E.x.structs n <;> exact ⟨_, rfl⟩
  obtain ⟨iC, hC⟩ := hC
  rw [hC]
  have B4 := Lib.hid (B3.out.trans (hb4.mono B3.out.size))
  have hh := hb.out
  unfold hasB at hh
  clear hb hb4 B3 d0 d1 d2 hA hB hC
  generalize (funO E.x n).isSome = x1 at *
  generalize (plc E.x.globals n).isSome = x2 at *
  generalize (fnd E.x.structs n).isSome = x3 at *
  cases x1 <;> cases x2 <;> cases x3 <;> simp only [Bool.or_false, Bool.or_true] at hh <;> subst hh <;> (go_wp2_with fail; refine bodyPost_ret (v := .bool _) (by simp [results, Tryz.results28, go_sem]) rfl ⟨rfl, B4.out⟩)

end Go.Proofs.YtkahbhfbgdbnfaaGreatDoor

/-
  PLAIN: the four texts that are known by number: what they declare, or what is wrong with them. Nothing of the program stands here. No condition.
-/
namespace Go.Proofs.YtkahbhfbgdbnfaaGreatDoor
open Go.RowKit

def aw1 : ByteArray := ⟨#[116, 121, 112, 101, 32, 84, 32, 115, 116, 114, 117, 99, 116, 32, 123, 32, 110, 32, 105, 110, 116, 59, 32, 125, 32, 118, 97, 114, 32, 103, 32, 42, 84, 59, 32, 102, 117, 110, 99, 32, 102, 40, 112, 32, 42, 84, 41, 32, 105, 110, 116, 32, 123, 32, 114, 101, 116, 117, 114, 110, 32, 112, 46, 110, 59, 32, 125, 32, 102, 117, 110, 99, 32, 109, 97, 105, 110, 40, 41, 32, 123, 32, 103, 32, 61, 32, 110, 101, 119, 40, 84, 41, 59, 32, 112, 114, 105, 110, 116, 40, 102, 40, 103, 41, 41, 59, 32, 125]⟩
def aw2 : ByteArray := ⟨#[102, 117, 110, 99, 32, 109, 97, 105, 110, 40, 41, 32, 123, 32, 120, 32, 58, 61, 32, 49, 59, 32, 120, 32, 58, 61, 32, 50, 59, 32, 125]⟩
def aw3 : ByteArray := ⟨#[102, 117, 110, 99, 32, 102, 40, 41, 32, 123, 32, 125]⟩
def aw4 : ByteArray := ⟨#[102, 117, 110, 99, 32, 109, 97, 105, 110, 40, 41, 32, 123, 32, 112, 114, 105, 110, 116, 40, 116, 114, 117, 101, 41, 59, 32, 125]⟩
theorem aw1_e : errS (sourceR aw1.data.toList) = 0 := by kernel_rfl
theorem aw1_s : (infS (sourceR aw1.data.toList)).structs.length = 1 := by kernel_rfl
theorem aw1_f : (infS (sourceR aw1.data.toList)).funs.length = 2 := by kernel_rfl
theorem aw1_r : ((infS (sourceR aw1.data.toList)).funs[0]?).map (·.res) = some tInt := by kernel_rfl
theorem aw1_m : funO (infS (sourceR aw1.data.toList)) tMain = some 1 := by kernel_rfl
theorem aw1_g : plc (infS (sourceR aw1.data.toList)).globals ⟨#[103]⟩ = some 0 := by kernel_rfl
theorem aw2_p : plcS (sourceR aw2.data.toList) = 22 := by kernel_rfl
theorem aw2_e : errS (sourceR aw2.data.toList) = 6 := by kernel_rfl
theorem aw3_e : errS (sourceR aw3.data.toList) = 8 := by kernel_rfl
theorem aw4_p : plcS (sourceR aw4.data.toList) = 14 := by kernel_rfl
theorem aw4_e : errS (sourceR aw4.data.toList) = 7 := by kernel_rfl

end Go.Proofs.YtkahbhfbgdbnfaaGreatDoor
