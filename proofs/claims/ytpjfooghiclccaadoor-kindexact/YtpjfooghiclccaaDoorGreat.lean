/-
  CONTRACTS: the statements' own 'great' and 'has'. The world is as it was.
-/
import Derived.Test.YtpjfooghiclccaaDoorMem
namespace Go.Proofs.YtpjfooghiclccaaDoor
open Go.RowKit

def grF (f : Fld) : Bool := decide (100 < f.name.size) || decide (100 < f.typ.size)
def grS (s : Str) : Bool := decide (100 < s.name.size) || decide (12 < s.fields.length) || s.fields.any grF
def grB (ss : List Str) : Bool := decide (16 < ss.length) || ss.any grS
theorem any_drop {α : Type} {f : α → Bool} {l : List α} {k : Nat} {a : α} (h : l[k]? = some a) : (l.drop k).any f = (f a || (l.drop (k + 1)).any f) := by
  obtain ⟨hk, rfl⟩ := List.getElem?_eq_some_iff.1 h
  rw [List.drop_eq_getElem_cons hk, List.any_cons]

set_option maxHeartbeats 400000 in
theorem great_any (A : Option Addr) (c m : Nat) (ss : List Str) (b : Bool) (w : World) (hR : SR w A ss) (hm : Hid (ss.length = m)) (hl : m ≤ 281474976710656) (hr : Hid (grB ss = b)) :
    Calls Tryd.prog 8 #[.slice A m c] w fun e w' => e = .returned (.bool b) ∧ w = w' := by
  have HR := Lib.hid hR
  clear hR
  by_cases h16 : 16 < m
  · have h16' : (16 : Int) < (m : Int) := by omega
    obtain rfl : b = true := hr.out.symm.trans (by unfold grB; rw [hm.out, decide_eq_true h16]; rfl)
    clear hr
    go_enter Tryd.func8, Tryd.ntmps8
    go_wp2_with fail
    go_ret
    exact ⟨rfl, rfl⟩
  · have h16' : ¬ (16 : Int) < (m : Int) := by omega
    have HQ : Hid ((ss.drop 0).any grS = b) := by show _ = _; rw [← hr.out, grB, hm.out, decide_eq_false h16]; rfl
    clear hr
    go_enter Tryd.func8, Tryd.ntmps8
    go_wp2_with fail
    go_loop [3, 4] (fun i j => ∃ k : Nat, k ≤ m ∧ i = .int .i64 k ∧ Hid ((ss.drop k).any grS = b)) (fun i _ => m - (intOf i).toNat)
    case atStart => exact ⟨0, Nat.zero_le _, rfl, HQ⟩
    case round =>
      obtain ⟨k, hk, rfl, HK⟩ := hrel
      by_cases hlt : k < m
      · obtain ⟨g, o, rfl, hg, hcs⟩ := HR.out (by have := hm.out; omega)
        obtain ⟨s, hs⟩ : ∃ s, ss[k]? = some s := ⟨_, List.getElem?_eq_getElem (by have := hm.out; omega)⟩
        obtain ⟨FA, fc, c0, c1, hfc, hfl, hF⟩ := hcs k s hs
        have had := any_drop (f := grS) hs
        rw [HK.out] at had
        have HCS := Lib.hid hcs
        have HF := Lib.hid hF
        clear hcs hs hF HK
        obtain ⟨sn, fs⟩ := s
        simp only at c0 c1 had hfc hfl HF
        obtain ⟨fm, hfm⟩ : ∃ fm, fs.length = fm := ⟨_, rfl⟩
        rw [hfm] at c1 hfc hfl
        have HFM := Lib.hid hfm
        unfold grS at had
        simp only at had
        rw [hfm] at had
        clear hfm
        by_cases h1 : 100 < sn.size
        · have h1' : (100 : Int) < (sn.size : Int) := by omega
          obtain rfl : b = true := by rw [had, decide_eq_true h1]; simp
          clear had
          go_wp2_with fail
          go_ret
          exact ⟨rfl, rfl⟩
        · have h1' : ¬ (100 : Int) < (sn.size : Int) := by omega
          have h1d : decide (100 < sn.size) = false := decide_eq_false h1
          by_cases h2 : 12 < fm
          · have h2' : (12 : Int) < (fm : Int) := by omega
            obtain rfl : b = true := by rw [had, decide_eq_true h2]; simp
            clear had
            go_wp2_with fail
            go_ret
            exact ⟨rfl, rfl⟩
          · have h2' : ¬ (12 : Int) < (fm : Int) := by omega
            have h2d : decide (12 < fm) = false := decide_eq_false h2
            have HAD : Hid (((fs.drop 0).any grF || (ss.drop (k + 1)).any grS) = b) := by
              show _ = _
              rw [had, h1d, h2d]; rfl
            clear had
            go_wp2_with fail
            go_loop [4] (fun j => ∃ q : Nat, q ≤ fm ∧ j = .int .i64 q ∧ Hid (((fs.drop q).any grF || (ss.drop (k + 1)).any grS) = b)) (fun j => fm - (intOf j).toNat)
            case atStart => exact ⟨0, Nat.zero_le _, rfl, HAD⟩
            case round =>
              obtain ⟨q, hq, rfl, HQ2⟩ := hrel
              by_cases hlt2 : q < fm
              · obtain ⟨g2, o2, rfl, hg2, hcs2⟩ := HF.out (by have := HFM.out; omega)
                obtain ⟨f, hf⟩ : ∃ f, fs[q]? = some f := ⟨_, List.getElem?_eq_getElem (by have := HFM.out; omega)⟩
                obtain ⟨e0, e1⟩ := hcs2 q f hf
                have had2 := any_drop (f := grF) hf
                have hb2 := HQ2.out
                rw [had2] at hb2
                clear hcs2 hf HQ2 had2
                obtain ⟨fn, ft⟩ := f
                simp only at e0 e1 hb2
                unfold grF at hb2
                simp only at hb2
                by_cases h3 : 100 < fn.size
                · have h3' : (100 : Int) < (fn.size : Int) := by omega
                  obtain rfl : b = true := by rw [← hb2, decide_eq_true h3]; simp
                  clear hb2
                  go_wp2_with fail
                  go_ret
                  exact ⟨rfl, rfl⟩
                · have h3' : ¬ (100 : Int) < (fn.size : Int) := by omega
                  have h3d : decide (100 < fn.size) = false := decide_eq_false h3
                  by_cases h4 : 100 < ft.size
                  · have h4' : (100 : Int) < (ft.size : Int) := by omega
                    obtain rfl : b = true := by rw [← hb2, decide_eq_true h4]; simp
                    clear hb2
                    go_wp2_with fail
                    go_ret
                    exact ⟨rfl, rfl⟩
                  · have h4' : ¬ (100 : Int) < (ft.size : Int) := by omega
                    have h4d : decide (100 < ft.size) = false := decide_eq_false h4
                    have HN : Hid (((fs.drop (q + 1)).any grF || (ss.drop (k + 1)).any grS) = b) := by
                      show _ = _
                      rw [← hb2, h3d, h4d]; rfl
                    clear hb2
                    go_wp2_with fail
                    go_round
                    case rel => exact ⟨q + 1, by omega, by go_num, HN⟩
                    case measure => simp [intOf]; omega
              · have HN : Hid ((ss.drop (k + 1)).any grS = b) := by
                  show _ = _
                  rw [← HQ2.out, List.drop_of_length_le (l := fs) (by have := HFM.out; omega)]; rfl
                go_wp2_with fail
                go_round
                case rel => exact ⟨k + 1, by omega, by go_num, HN⟩
                case measure => simp [intOf]; omega
      · obtain rfl : b = false := by rw [← HK.out, List.drop_of_length_le (by have := hm.out; omega)]; rfl
        go_wp2_with fail
        go_ret
        exact ⟨rfl, rfl⟩

/-- The slice reads as these texts. -/
def TR (w : World) (A : Option Addr) (ts : List ByteArray) : Prop := 0 < ts.length → ∃ b o, A = some ⟨b, o, none⟩ ∧ b < w.heap.size ∧ ∀ k t, ts[k]? = some t → w.cell? ⟨b, o + k, none⟩ = some (.string t)
theorem TR.below {w w' : World} {B : Nat} {A : Option Addr} {ts : List ByteArray} (h : TR w A ts) (hb : Below B w w') (hB : w.heap.size ≤ B) : TR w' A ts := by
  intro h0
  obtain ⟨b, o, hA, hg, hc⟩ := h h0
  exact ⟨b, o, hA, Nat.lt_of_lt_of_le hg hb.size, fun k t ht => (hb.cell (p := ⟨b, o + k, none⟩) (Nat.lt_of_lt_of_le hg hB)).trans (hc k t ht)⟩
def hasB (ts : List ByteArray) (n : ByteArray) : Bool := ts.any fun t => eqB t n
theorem has_iff {ts : List ByteArray} {n : ByteArray} : hasB ts n = true ↔ n ∈ ts := by
  unfold hasB
  rw [List.any_eq_true]
  constructor
  · rintro ⟨x, hx, he⟩; rw [← eqB_iff.1 he]; exact hx
  · intro h; exact ⟨n, h, eqB_iff.2 rfl⟩

set_option maxHeartbeats 400000 in
theorem has_any (A : Option Addr) (c m : Nat) (ts : List ByteArray) (n : ByteArray) (b : Bool) (w : World) (hR : TR w A ts) (hm : Hid (ts.length = m)) (hl : m ≤ 281474976710656) (hr : Hid (hasB ts n = b)) :
    Calls Tryd.prog 24 #[.slice A m c, .string n] w fun e w' => e = .returned (.bool b) ∧ w = w' := by
  have HR := Lib.hid hR
  clear hR
  have HQ : Hid ((ts.drop 0).any (fun t => eqB t n) = b) := hr
  go_enter Tryd.func24, Tryd.ntmps24
  go_wp2_with fail
  go_loop [5] (fun i => ∃ k : Nat, k ≤ m ∧ i = .int .i64 k ∧ Hid ((ts.drop k).any (fun t => eqB t n) = b)) (fun i => m - (intOf i).toNat)
  case atStart => exact ⟨0, Nat.zero_le _, rfl, HQ⟩
  case round =>
    obtain ⟨k, hk, rfl, HK⟩ := hrel
    by_cases hlt : k < m
    · obtain ⟨g, o, rfl, hg, hcs⟩ := HR.out (by have := hm.out; omega)
      obtain ⟨s, hs⟩ : ∃ s, ts[k]? = some s := ⟨_, List.getElem?_eq_getElem (by have := hm.out; omega)⟩
      have c0 := hcs k s hs
      have had := any_drop (f := fun t => eqB t n) hs
      rw [HK.out] at had
      have HCS := Lib.hid hcs
      clear hcs hs HK
      cases he : eqB s n with
      | true =>
        obtain rfl : b = true := by rw [had, he]; rfl
        obtain rfl := eqB_iff.1 he
        clear had he
        go_wp2_with fail
        go_ret
        exact ⟨rfl, rfl⟩
      | false =>
        have HN : Hid ((ts.drop (k + 1)).any (fun t => eqB t n) = b) := by show _ = _; rw [had, he]; rfl
        have hsp := eqB_spell he
        clear had he
        go_wp2_with fail
        go_round
        case rel => exact ⟨k + 1, by omega, by go_num, HN⟩
        case measure => simp [intOf]; omega
    · obtain rfl : b = false := by rw [← HK.out, List.drop_of_length_le (by have := hm.out; omega)]; rfl
      go_wp2_with fail
      go_ret
      exact ⟨rfl, rfl⟩

end Go.Proofs.YtpjfooghiclccaaDoor
