/-
  CONTRACTS: slices.Equal of fields, sameStruct, slices.EqualFunc, Same of package kind. Of what was there nothing has turned.
-/
import Derived.Test.YtpjfooghiclccaaDoorMem
import Derived.Laws.StructEq
namespace Go.Proofs.YtpjfooghiclccaaDoor
open Go.RowKit

theorem take_eq_succ {α : Type} {l l' : List α} {k : Nat} {a : α} (h : l.take k = l'.take k) (h1 : l[k]? = some a) (h2 : l'[k]? = some a) : l.take (k + 1) = l'.take (k + 1) := by
  obtain ⟨p1, e1⟩ := List.getElem?_eq_some_iff.1 h1
  obtain ⟨p2, e2⟩ := List.getElem?_eq_some_iff.1 h2
  rw [List.take_succ_eq_append_getElem p1, List.take_succ_eq_append_getElem p2, h, e1, e2]
theorem ne_at {α : Type} {l l' : List α} {k : Nat} {a b : α} (h1 : l[k]? = some a) (h2 : l'[k]? = some b) (h : a ≠ b) : l ≠ l' := fun e => h (by rw [e, h2] at h1; exact (Option.some.inj h1).symm)

set_option maxHeartbeats 400000 in
theorem equal_any (A A' : Option Addr) (c c' m m' : Nat) (fs fs' : List Fld) (b : Bool) (w : World) (hR : FR w A fs) (hR' : FR w A' fs') (hm : Hid (fs.length = m)) (hm' : Hid (fs'.length = m')) (hl : m ≤ 281474976710656) (hl' : m' ≤ 281474976710656)
    (hr : Hid (b = true ↔ fs = fs')) : Calls Tryd.prog 41 #[.slice A m c, .slice A' m' c'] w fun e w' => e = .returned (.bool b) ∧ Below w.heap.size w w' := by
  have HR := Lib.hid hR
  have HR' := Lib.hid hR'
  clear hR hR'
  by_cases he : m = m'
  · subst he
    go_enter Tryd.func41, Tryd.ntmps41
    go_wp2_with fail
    go_loopw [13] (fun i wr => ∃ k nd : Nat, k ≤ m ∧ i = .int .i64 k ∧ wr = w.drewN nd ∧ Hid (fs.take k = fs'.take k)) (fun i _ => m - (intOf i).toNat)
    case atStart => exact ⟨0, 0, Nat.zero_le _, rfl, rfl, rfl⟩
    case round =>
      obtain ⟨k, nd, hk, rfl, rfl, HK⟩ := hrel
      by_cases hlt : k < m
      · obtain ⟨g, o, rfl, hg, hcs⟩ := HR.out (by have := hm.out; omega)
        obtain ⟨g', o', rfl, hg', hcs'⟩ := HR'.out (by have := hm'.out; omega)
        obtain ⟨f, hf⟩ : ∃ f, fs[k]? = some f := ⟨_, List.getElem?_eq_getElem (by have := hm.out; omega)⟩
        obtain ⟨f', hf'⟩ : ∃ f, fs'[k]? = some f := ⟨_, List.getElem?_eq_getElem (by have := hm'.out; omega)⟩
        obtain ⟨c0, c1⟩ := hcs k f hf
        obtain ⟨d0, d1⟩ := hcs' k f' hf'
        have HCS := Lib.hid hcs
        have HCS' := Lib.hid hcs'
        have HF := Lib.hid hf
        have HF' := Lib.hid hf'
        clear hcs hcs' hf hf'
        obtain ⟨fn, ft⟩ := f
        obtain ⟨fn', ft'⟩ := f'
        simp only at c0 c1 d0 d1
        cases h1 : eqB fn fn' with
        | false =>
          have s1 := eqB_spell h1
          obtain rfl : b = false := by
            cases b with
            | false => rfl
            | true => exact absurd (hr.out.1 rfl) (ne_at HF.out HF'.out (fun e => by injection e with e1 e2; rw [e1, eqB_iff.2 rfl] at h1; cases h1))
          clear h1
          go_wp2_with fail
          go_quiet (fail)
          go_wp2_with fail
          go_ret
          exact ⟨rfl, below_drewN (below_drewN (Below.refl _ _) _) _⟩
        | true =>
          obtain rfl := eqB_iff.1 h1
          clear h1
          cases h2 : eqB ft ft' with
          | false =>
            have s1 := eqB_spell h2
            obtain rfl : b = false := by
              cases b with
              | false => rfl
              | true => exact absurd (hr.out.1 rfl) (ne_at HF.out HF'.out (fun e => by injection e with e1 e2; rw [e2, eqB_iff.2 rfl] at h2; cases h2))
            clear h2
            go_wp2_with fail
            go_quiet (fail)
            go_wp2_with fail
            go_ret
            exact ⟨rfl, below_drewN (below_drewN (Below.refl _ _) _) _⟩
          | true =>
            obtain rfl := eqB_iff.1 h2
            have HN := Lib.hid (take_eq_succ HK.out HF.out HF'.out)
            clear h2
            go_wp2_with fail
            go_quiet (fail)
            go_wp2_with fail
            refine ⟨⟨k + 1, _, by omega, by go_num, rfl, HN⟩, ?_⟩
            simp [intOf]; omega
      · obtain rfl : b = true := hr.out.2 (by
          have := HK.out
          rwa [List.take_of_length_le (by have := hm.out; omega), List.take_of_length_le (by have := hm'.out; omega)] at this)
        go_wp2_with fail
        go_ret
        exact ⟨rfl, below_drewN (Below.refl _ _) _⟩
  · have n1 : ((m : Int) != (m' : Int)) = true := by simp; omega
    have n2 : (m != m') = true := by simp; exact he
    obtain rfl : b = false := by
      cases b with
      | false => rfl
      | true => exact absurd (by have h := hr.out.1 rfl; have h1 := hm.out; have h2 := hm'.out; rw [h] at h1; omega) he
    clear he
    go_enter Tryd.func41, Tryd.ntmps41
    go_wp2_with fail
    go_ret
    exact ⟨rfl, Below.refl _ _⟩

set_option maxHeartbeats 400000 in
theorem sameStruct_any (sn sn' : ByteArray) (A A' : Option Addr) (c c' m m' : Nat) (fs fs' : List Fld) (b : Bool) (w : World) (hR : FR w A fs) (hR' : FR w A' fs') (hm : Hid (fs.length = m)) (hm' : Hid (fs'.length = m')) (hl : m ≤ 281474976710656) (hl' : m' ≤ 281474976710656)
    (hr : Hid (b = true ↔ Str.mk sn fs = Str.mk sn' fs')) : Calls Tryd.prog 32 #[.agg #[.string sn, .slice A m c], .agg #[.string sn', .slice A' m' c']] w fun e w' => e = .returned (.bool b) ∧ Below w.heap.size w w' := by
  have bb := below2 w (.cells #[.string sn, .slice A m c] 43) (.cells #[.string sn', .slice A' m' c'] 43)
  have HR := Lib.hid (hR.below bb (Nat.le_refl _))
  have HR' := Lib.hid (hR'.below bb (Nat.le_refl _))
  clear hR hR'
  cases h1 : eqB sn sn' with
  | false =>
    have s1 := eqB_spell h1
    obtain rfl : b = false := by
      cases b with
      | false => rfl
      | true => have h := hr.out.1 rfl; injection h with e1 e2; rw [e1, eqB_iff.2 rfl] at h1; cases h1
    clear h1
    go_enter Tryd.func32, Tryd.ntmps32
    go_wp2_with fail
    go_ret
    exact ⟨rfl, bb⟩
  | true =>
    obtain rfl := eqB_iff.1 h1
    have HQ : Hid (b = true ↔ fs = fs') := by
      show _ ↔ _
      rw [hr.out]
      exact ⟨fun e => by injection e, fun e => by rw [e]⟩
    clear h1 hr
    go_enter Tryd.func32, Tryd.ntmps32
    go_wp2_with (go_at_call 41; refine (equal_any _ _ _ _ m m' fs fs' b _ HR.out HR'.out hm hm' hl hl' HQ).mono ?_; rintro e w1 ⟨rfl, b1⟩)
    go_ret
    exact ⟨rfl, below_on bb b1⟩

def SRel (w : World) (ss ss' : List Str) (m : Nat) (i : Value) (wr : World) : Prop :=
  ∃ k : Nat, k ≤ m ∧ i = .int .i64 k ∧ Hid (ss.take k = ss'.take k) ∧ Below w.heap.size w wr

set_option maxHeartbeats 400000 in
theorem equalFunc_any (A A' : Option Addr) (c c' m m' : Nat) (ss ss' : List Str) (b : Bool) (w : World) (hR : SR w A ss) (hR' : SR w A' ss') (hm : Hid (ss.length = m)) (hm' : Hid (ss'.length = m')) (hl : m ≤ 281474976710656)
    (hr : Hid (b = true ↔ ss = ss')) : Calls Tryd.prog 31 #[.slice A m c, .slice A' m' c', .func (.func 32) #[] #[]] w fun e w' => e = .returned (.bool b) ∧ Below w.heap.size w w' := by
  have HR := Lib.hid hR
  have HR' := Lib.hid hR'
  clear hR hR'
  by_cases he : m = m'
  · subst he
    go_enter Tryd.func31, Tryd.ntmps31
    go_wp2_with fail
    go_loopw [17] (fun i wr => SRel w ss ss' m i wr) (fun i _ => m - (intOf i).toNat)
    case atStart => exact ⟨0, Nat.zero_le _, rfl, rfl, Below.refl _ _⟩
    case round =>
      obtain ⟨k, hk, rfl, HK, hb⟩ := hrel
      by_cases hlt : k < m
      · obtain ⟨g, o, rfl, hg, hcs⟩ := (HR.out.below hb (Nat.le_refl _)) (by have := hm.out; omega)
        obtain ⟨g', o', rfl, hg', hcs'⟩ := (HR'.out.below hb (Nat.le_refl _)) (by have := hm'.out; omega)
        obtain ⟨f, hf⟩ : ∃ f, ss[k]? = some f := ⟨_, List.getElem?_eq_getElem (by have := hm.out; omega)⟩
        obtain ⟨f', hf'⟩ : ∃ f, ss'[k]? = some f := ⟨_, List.getElem?_eq_getElem (by have := hm'.out; omega)⟩
        obtain ⟨FA, fc, c0, c1, h1, h2, hF⟩ := hcs k f hf
        obtain ⟨FA', fc', d0, d1, h1', h2', hF'⟩ := hcs' k f' hf'
        have HCS := Lib.hid hcs
        have HCS' := Lib.hid hcs'
        have HF := Lib.hid hf
        have HF' := Lib.hid hf'
        clear hcs hcs' hf hf'
        obtain ⟨sn, fs⟩ := f
        obtain ⟨sn', fs'⟩ := f'
        simp only at c0 c1 d0 d1 h1 h1' h2 h2' hF hF'
        obtain ⟨fm, hfm⟩ : ∃ fm, fs.length = fm := ⟨_, rfl⟩
        obtain ⟨fm', hfm'⟩ : ∃ fm, fs'.length = fm := ⟨_, rfl⟩
        rw [hfm] at c1 h1 h2
        rw [hfm'] at d1 h1' h2'
        have HFM := Lib.hid hfm
        have HFM' := Lib.hid hfm'
        have bb := below2 wr (.cells #[.string sn, .slice FA fm fc] 43) (.cells #[.string sn', .slice FA' fm' fc'] 43)
        have hF3 := Lib.hid (hF.below bb (Nat.le_refl _))
        have hF3' := Lib.hid (hF'.below bb (Nat.le_refl _))
        have D := Lib.hid (below_on hb bb)
        have d0' : (wr.alloc (.cells #[.string sn, .slice FA fm fc] 43)).cell? ⟨g', o' + k * 2, none⟩ = some (.string sn') := (World.cell?_alloc_lt wr _ ⟨g', o' + k * 2, none⟩ hg').trans d0
        have d1' : (wr.alloc (.cells #[.string sn, .slice FA fm fc] 43)).cell? ⟨g', o' + k * 2 + 1, none⟩ = some (.slice FA' fm' fc') := (World.cell?_alloc_lt wr _ ⟨g', o' + k * 2 + 1, none⟩ hg').trans d1
        clear hfm hfm' hF hF' bb
        by_cases h : Str.mk sn fs = Str.mk sn' fs'
        · have HT : Hid (true = true ↔ Str.mk sn fs = Str.mk sn' fs') := show _ ↔ _ from ⟨fun _ => h, fun _ => rfl⟩
          have HN := Lib.hid (take_eq_succ HK.out HF.out (by rw [h]; exact HF'.out))
          clear h
          go_wp2_with (go_at_call 32; refine (sameStruct_any _ _ _ _ _ _ fm fm' fs fs' true _ hF3.out hF3'.out HFM HFM' h2 h2' HT).mono ?_; rintro e w1 ⟨rfl, b1⟩)
          go_roundw
          case rel => exact ⟨k + 1, by omega, by go_num, HN, below_on D.out b1⟩
          case measure => simp [intOf]; omega
        · have HT : Hid (false = true ↔ Str.mk sn fs = Str.mk sn' fs') := show _ ↔ _ from ⟨(fun x => by cases x), fun x => absurd x h⟩
          obtain rfl : b = false := by
            cases b with
            | false => rfl
            | true => exact absurd (hr.out.1 rfl) (ne_at HF.out HF'.out h)
          clear h
          go_wp2_with (go_at_call 32; refine (sameStruct_any _ _ _ _ _ _ fm fm' fs fs' false _ hF3.out hF3'.out HFM HFM' h2 h2' HT).mono ?_; rintro e w1 ⟨rfl, b1⟩)
          go_ret
          exact ⟨rfl, below_on D.out b1⟩
      · obtain rfl : b = true := hr.out.2 (by
          have := HK.out
          rwa [List.take_of_length_le (by have := hm.out; omega), List.take_of_length_le (by have := hm'.out; omega)] at this)
        go_wp2_with fail
        go_ret
        exact ⟨rfl, hb⟩
  · have n1 : ((m : Int) != (m' : Int)) = true := by simp; omega
    have n2 : (m != m') = true := by simp; exact he
    obtain rfl : b = false := by
      cases b with
      | false => rfl
      | true => exact absurd (by have h := hr.out.1 rfl; have h1 := hm.out; have h2 := hm'.out; rw [h] at h1; omega) he
    clear he
    go_enter Tryd.func31, Tryd.ntmps31
    go_wp2_with fail
    go_ret
    exact ⟨rfl, Below.refl _ _⟩

theorem same_any (A A' : Option Addr) (c c' m m' : Nat) (ss ss' : List Str) (b : Bool) (w : World) (hR : SR w A ss) (hR' : SR w A' ss') (hm : Hid (ss.length = m)) (hm' : Hid (ss'.length = m')) (hl : m ≤ 281474976710656)
    (hr : Hid (b = true ↔ ss = ss')) : Calls Tryd.prog 22 #[.slice A m c, .slice A' m' c'] w fun e w' => e = .returned (.bool b) ∧ Below w.heap.size w w' := by
  go_enter Tryd.func22, Tryd.ntmps22
  go_wp2_with (go_at_call 31; refine (equalFunc_any _ _ _ _ m m' ss ss' b _ hR hR' hm hm' hl hr).mono ?_; rintro e w1 ⟨rfl, b1⟩)
  go_ret
  exact ⟨rfl, b1⟩

end Go.Proofs.YtpjfooghiclccaaDoor
