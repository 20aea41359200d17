/-
  CONTRACT: the anchor 'awake' answers true; of what was there nothing has turned. A heap beside others: the words for it. Condition: the table of keys lies as the program's text lays it.
-/
import Derived.Test.YtjgmhkplgenieaaDoorHReach
import Derived.Test.YtjgmhkplgenieaaDoorHNew
namespace Go.Proofs.YtjgmhkplgenieaaDoor
open Go.RowKit

/-- A heap whose blocks are none of F's, and none that stood in W. -/
def SP (W w : World) (F : Nat → Prop) (v : Value) (H : Option Hp) : Prop := ∃ P : Nat → Prop, (∀ i, P i → W.heap.size ≤ i ∧ i < w.heap.size ∧ ¬ F i) ∧ PM w P v H
/-- What may turn when such a heap does. -/
def My (W : World) (F : Nat → Prop) (i : Nat) : Prop := W.heap.size ≤ i ∧ ¬ F i
section
variable {W w w' : World} {F : Nat → Prop} {v : Value} {H : Option Hp}
theorem SP.read (h : SP W w F v H) (hb : Below w.heap.size w w') : SP W w' F v H := by
  obtain ⟨P, h1, h2⟩ := h
  exact ⟨P, fun i hi => ⟨(h1 i hi).1, Nat.lt_of_lt_of_le (h1 i hi).2.1 hb.size, (h1 i hi).2.2⟩, h2.below hb⟩
theorem SP.other (h : SP W w F v H) (hs : Sv F w w') : SP W w' (Gr F w w') v H := by
  obtain ⟨P, h1, h2⟩ := h
  refine ⟨P, fun i hi => ⟨(h1 i hi).1, Nat.lt_of_lt_of_le (h1 i hi).2.1 hs.size, ?_⟩, h2.sv hs (fun i hi => (h1 i hi).2.2)⟩
  rintro (x | ⟨x, _⟩)
  · exact (h1 i hi).2.2 x
  · exact absurd (h1 i hi).2.1 (by omega)
theorem SP.len (h : SP W w F v H) : Calls Tryd.prog 14 #[v] w fun e w' => e = .returned (.int .i64 (lenO H)) ∧ w = w' := by
  obtain ⟨P, _, h2⟩ := h
  exact len_any P v H w h2
theorem SP.get (h : SP W w F v H) (o f n : Int) (r : Nat) (hr : Hid (askO H o f = r)) (hn : Hid (getO H o f = n)) : Calls Tryd.prog 11 #[v, .int .i64 o, .int .i64 f] w fun e w' => e = .returned (.tuple #[.int .i64 n, .int .i64 r]) ∧ Below w.heap.size w w' := by
  obtain ⟨P, _, h2⟩ := h
  exact get_any P v H o f n r w h2 hr hn
theorem SP.of (h : SP W w F v H) (o : Int) (t : ByteArray) (ht : Hid (ofO H o = t)) : Calls Tryd.prog 13 #[v, .int .i64 o] w fun e w' => e = .returned (.string t) ∧ Below w.heap.size w w' := by
  obtain ⟨P, _, h2⟩ := h
  exact of_any P v H o t w h2 ht
theorem SP.near (h : SP W w F v H) (o : Int) : Calls Tryd.prog 15 #[v, .int .i64 o] w (NearQ (nearO H o) w) := by
  obtain ⟨P, _, h2⟩ := h
  exact near_any P v H o w h2
theorem SP.lenle (h : SP W w F v H) : lenO H ≤ 131072 := by
  obtain ⟨P, _, h2⟩ := h
  cases H with
  | none => exact Nat.zero_le _
  | some H => obtain ⟨_, _, _, _, hm⟩ := h2; exact hm.ok.no
theorem SP.reach (h : SP W w F v H) (n c : Nat) (roots : List Int) (A : Option Addr) (hl : IRz w A roots) (hn : Hid (roots.length = n)) (hnl : n ≤ 281474976710656) : Calls Tryd.prog 16 #[v, .slice A n c] w (ReachQ H roots w) := by
  have hle := h.lenle
  obtain ⟨P, _, h2⟩ := h
  exact reach_all P v H (lenO H) n c roots A w h2 hl hn hnl rfl hle
theorem SP.set (h : SP W w F v H) (o f n : Int) (r : Nat) (hr : Hid (askO H o f = r)) (H' : Option Hp) (hH : Hid (setO H o f n = H')) :
    Calls Tryd.prog 12 #[v, .int .i64 o, .int .i64 f, .int .i64 n] w fun e w' => e = .returned (.int .i64 r) ∧ Sv (My W F) w w' ∧ SP W w' F v H' := by
  obtain ⟨P, h1, h2⟩ := h
  refine (set_any P v H o f n r w h2 hr).mono ?_
  rintro e w' ⟨rfl, hs, hp⟩
  have hH := hH.out
  subst hH
  exact ⟨rfl, hs.mono (fun i hi => ⟨(h1 i hi).1, (h1 i hi).2.2⟩), P, fun i hi => ⟨(h1 i hi).1, Nat.lt_of_lt_of_le (h1 i hi).2.1 hs.size, (h1 i hi).2.2⟩, hp⟩
theorem SP.make (h : SP W w F v H) (hF : ∀ i, F i → i < w.heap.size) (hW : W.heap.size ≤ w.heap.size) (nm : ByteArray) (H' : Option Hp) (a r : Nat) (hr : Hid (makeO H nm = (H', a, r))) :
    Calls Tryd.prog 10 #[v, .string nm] w fun e w' => e = .returned (.tuple #[.int .i64 a, .int .i64 r]) ∧ Sv (My W F) w w' ∧ SP W w' F v H' := by
  obtain ⟨P, h1, h2⟩ := h
  refine (make_any P v H nm H' a r w h2 hr).mono ?_
  rintro e w' ⟨rfl, hs, hp⟩
  refine ⟨rfl, hs.mono (fun i hi => ⟨(h1 i hi).1, (h1 i hi).2.2⟩), Gr P w w', fun i hi => ?_, hp⟩
  rcases hi with x | ⟨x, y⟩
  · exact ⟨(h1 i x).1, Nat.lt_of_lt_of_le (h1 i x).2.1 hs.size, (h1 i x).2.2⟩
  · exact ⟨by omega, y, fun f => by have := hF i f; omega⟩
theorem SP.clone (h : SP W w F v H) : Calls Tryd.prog 17 #[v] w fun e w' => ∃ v', e = .returned v' ∧ Below w.heap.size w w' ∧ PM w' (Nw w w') v' H := by
  obtain ⟨P, _, h2⟩ := h
  exact clone_any P v H w h2
end
theorem my_below {W w w' : World} {F : Nat → Prop} (h : Sv (My W F) w w') (hW : W.heap.size ≤ w.heap.size) : Below W.heap.size w w' := h.below (fun _ hi => hi.1) hW

def NoF : Nat → Prop := fun _ => False
def L0 : List Str := [⟨⟨#[84]⟩, [⟨⟨#[110]⟩, ⟨#[105, 110, 116]⟩⟩, ⟨⟨#[116]⟩, ⟨#[42, 84]⟩⟩]⟩]
def H0 : Hp := ⟨L0, []⟩
def H1 : Hp := ⟨L0, [⟨0, [0, 0, 0, 0, 0, 0, 0, 0]⟩]⟩
def H2 : Hp := ⟨L0, [⟨0, [0, 0, 0, 0, 0, 0, 0, 0]⟩, ⟨0, [0, 0, 0, 0, 0, 0, 0, 0]⟩]⟩
def H3 : Hp := ⟨L0, [⟨0, [0, 2, 0, 0, 0, 0, 0, 0]⟩, ⟨0, [0, 0, 0, 0, 0, 0, 0, 0]⟩]⟩
theorem n0 : newO L0 = some H0 := by
  unfold newO
  rw [show chk L0 = (0, 0) by decide +kernel]; rfl
theorem nE : newO [⟨⟨#[]⟩, []⟩] = none := by
  unfold newO
  rw [show chk [⟨⟨#[]⟩, []⟩] = (0, 1) by decide +kernel]; rfl
theorem make_some {H : Hp} {nm : ByteArray} {s : Nat} (h : fnd H.ss nm = some s) (hn : ¬ 131072 ≤ H.obs.length) : makeO (some H) nm = (some (mkH H s), H.obs.length + 1, 0) := by
  unfold makeO
  simp only [h]
  rw [if_neg hn]
theorem m1 : makeO (some H0) ⟨#[84]⟩ = (some H1, 1, 0) := make_some (s := 0) (by decide +kernel) (by decide +kernel)
theorem m2 : makeO (some H1) ⟨#[84]⟩ = (some H2, 2, 0) := make_some (s := 0) (by decide +kernel) (by decide +kernel)
theorem s3 : setO (some H2) 1 1 2 = some H3 := by
  have h : askO (some H2) 1 1 = 0 := by decide +kernel
  unfold setO
  rw [if_pos h]; rfl
theorem nr1 : nearO (some H3) 1 = [2] := by
  show (if hasO (some H3) 1 = true then nrL H3 0 else []) = _
  rw [show hasO (some H3) 1 = true by decide +kernel, if_pos rfl]
  unfold nrL
  rw [show nrK H3 0 8 = [2] by decide +kernel, List.mergeSort_singleton]; decide +kernel
theorem nr2 : nearO (some H3) 2 = [] := by
  show (if hasO (some H3) 2 = true then nrL H3 1 else []) = _
  rw [show hasO (some H3) 2 = true by decide +kernel, if_pos rfl]
  unfold nrL
  rw [show nrK H3 1 8 = [] by decide +kernel, List.mergeSort_nil]; decide +kernel
theorem rc3 {ls : List Int} (h : HRc (some H3) [1] ls) : ls = [1, 2] := by
  have h1 : Rd (some H3) [1] 1 := .base (by simp) (by decide +kernel)
  have h2 : Rd (some H3) [1] 2 := .step h1 (by rw [nr1]; simp)
  have hall : ∀ x, Rd (some H3) [1] x → x = 1 ∨ x = 2 := by
    intro x hx
    induction hx with
    | base h _ => left; simpa using h
    | step _ hy ih =>
      rcases ih with rfl | rfl
      · rw [nr1] at hy; right; simpa using hy
      · rw [nr2] at hy; cases hy
  have m1 := (h.mem 1).2 h1
  have m2 := (h.mem 2).2 h2
  have hm : ∀ x ∈ ls, x = 1 ∨ x = 2 := fun x hx => hall x ((h.mem x).1 hx)
  have hp := h.lt
  match ls, m1, m2, hm, hp with
  | [], m, _, _, _ => cases m
  | [a], m1, m2, _, _ =>
    simp at m1 m2
    omega
  | [a, b], m1, m2, hm, hp =>
    have ha := hm a (by simp)
    have hb := hm b (by simp)
    have hab : a < b := by simpa using hp
    rcases ha with rfl | rfl <;> rcases hb with rfl | rfl <;> first | rfl | omega
  | a :: b :: c :: r, _, _, hm, hp =>
    have ha := hm a (by simp)
    have hb := hm b (by simp)
    have hc := hm c (by simp)
    rw [List.pairwise_cons] at hp
    have h1 := hp.1 b (by simp)
    have h2 := (List.pairwise_cons.1 hp.2).1 c (by simp)
    omega

theorem l0_sr (w : World) : SR ((w.alloc (.cells #[.string ⟨#[110]⟩, .string ⟨#[105, 110, 116]⟩, .string ⟨#[116]⟩, .string ⟨#[42, 84]⟩] 62)).alloc (.cells #[.string ⟨#[84]⟩, .slice (some ⟨w.heap.size, 0, none⟩) 2 2] 52)) (some ⟨w.heap.size + 1, 0, none⟩) L0 := by
  have k1 := fun j => (World.cell?_of_block (w := w.alloc (.cells #[.string ⟨#[110]⟩, .string ⟨#[105, 110, 116]⟩, .string ⟨#[116]⟩, .string ⟨#[42, 84]⟩] 62)) (a := ⟨w.heap.size, j, none⟩) (Below.heap_alloc _ (.cells #[.string ⟨#[84]⟩, .slice (some ⟨w.heap.size, 0, none⟩) 2 2] 52) _ (by simp))).trans (cell_new w #[.string ⟨#[110]⟩, .string ⟨#[105, 110, 116]⟩, .string ⟨#[116]⟩, .string ⟨#[42, 84]⟩] 62 j)
  have k2 := fun j => cell_second w #[.string ⟨#[110]⟩, .string ⟨#[105, 110, 116]⟩, .string ⟨#[116]⟩, .string ⟨#[42, 84]⟩] #[.string ⟨#[84]⟩, .slice (some ⟨w.heap.size, 0, none⟩) 2 2] 62 52 j
  refine fun _ => ⟨w.heap.size + 1, 0, rfl, by simp, fun i s hs => ?_⟩
  rcases i with _ | i
  · obtain rfl := (Option.some.inj hs).symm
    refine ⟨some ⟨w.heap.size, 0, none⟩, 2, k2 0, k2 1, by decide, by decide, fun _ => ⟨w.heap.size, 0, rfl, by simp; omega, fun k f hf => ?_⟩⟩
    rcases k with _ | _ | k
    · obtain rfl := (Option.some.inj hf).symm
      exact ⟨k1 0, k1 1⟩
    · obtain rfl := (Option.some.inj hf).symm
      exact ⟨k1 2, k1 3⟩
    · simp at hf
  · simp [L0] at hs
theorem new_sp (A : Option Addr) (c m : Nat) (ss : List Str) (H : Option Hp) (W w : World) (hW : W.heap.size ≤ w.heap.size) (hK : Hid (KeysIn w)) (hR : Hid (SR w A ss)) (hm : Hid (ss.length = m)) (hl : m ≤ 281474976710656) (hmc : m ≤ c) (hH : newO ss = H) :
    Calls Tryd.prog 8 #[.slice A m c] w fun e w' => ∃ v, e = .returned v ∧ Below w.heap.size w w' ∧ SP W w' NoF v H := by
  refine (new_any A c m ss w hK.out hR.out hm hl hmc).mono ?_
  rintro e w' ⟨v, rfl, hb, hp⟩
  rw [hH] at hp
  exact ⟨v, rfl, hb, _, fun i hi => ⟨Nat.le_trans hW hi.1, hi.2, id⟩, hp⟩

set_option maxRecDepth 100000 in
set_option maxHeartbeats 4000000 in
theorem awake_true (w : World) (hK : KeysIn w) : Calls Tryd.prog 6 #[] w fun e w' => e = .returned (.bool true) ∧ Below w.heap.size w w' := by
  have HK := Lib.hid hK
  clear hK
  go_enter Tryd.func6, Tryd.ntmps6
  go_wp2_with (go_at_call 8; refine Hid.out ?_)
  have hb0 : Below w.heap.size w ((w.alloc (.cells #[.string ⟨#[110]⟩, .string ⟨#[105, 110, 116]⟩, .string ⟨#[116]⟩, .string ⟨#[42, 84]⟩] 62)).alloc (.cells #[.string ⟨#[84]⟩, .slice (some ⟨w.heap.size, 0, none⟩) 2 2] 52)) := ((Below.refl _ w).alloc (Nat.le_refl _) _).alloc (by simp) _
  have hr0 := Lib.hid (l0_sr w)
  have B0 := Lib.hid hb0
  generalize (w.alloc (.cells #[.string ⟨#[110]⟩, .string ⟨#[105, 110, 116]⟩, .string ⟨#[116]⟩, .string ⟨#[42, 84]⟩] 62)).alloc (.cells #[.string ⟨#[84]⟩, .slice (some ⟨w.heap.size, 0, none⟩) 2 2] 52) = w0 at *
  refine Lib.hid ?_
  refine (new_sp _ 1 1 L0 _ w w0 B0.out.size (HK.out.below B0.out (Nat.le_refl _)) hr0 rfl (by omega) (by omega) n0).mono ?_
  rintro e w1 ⟨v, rfl, b1, s1⟩
  have S1 := Lib.hid s1
  have B1 := Lib.hid (B0.out.trans (b1.mono B0.out.size))
  clear b1 s1 B0 hr0 hb0
  go_wp2_with (go_at_call 10; refine (S1.out.make (fun _ h => h.elim) B1.out.size _ _ 1 0 m1).mono ?_; rintro e w2 ⟨rfl, hs2, ss2⟩; refine Hid.out ?_)
  have S2 := Lib.hid ss2
  have B2 := Lib.hid (B1.out.trans (my_below hs2 B1.out.size))
  clear hs2 ss2
  refine Lib.hid ?_
  go_wp2_with (go_at_call 10; refine (S2.out.make (fun _ h => h.elim) B2.out.size _ _ 2 0 m2).mono ?_; rintro e w3 ⟨rfl, hs3, ss3⟩; refine Hid.out ?_)
  have S3 := Lib.hid ss3
  have B3 := Lib.hid (B2.out.trans (my_below hs3 B2.out.size))
  clear hs3 ss3
  refine Lib.hid ?_
  go_wp2_with (go_at_call 12; refine (S3.out.set 1 1 2 0 (show _ = _ by decide +kernel) _ s3).mono ?_; rintro e w4 ⟨rfl, hs4, ss4⟩; refine Hid.out ?_)
  have S4 := Lib.hid ss4
  have B4 := Lib.hid (B3.out.trans (my_below hs4 B3.out.size))
  clear hs4 ss4
  refine Lib.hid ?_
  go_wp2_with (go_at_call 11; refine (S4.out.get 1 1 2 0 (show _ = _ by decide +kernel) (show _ = _ by decide +kernel)).mono ?_; rintro e w5 ⟨rfl, hb5⟩; refine Hid.out ?_)
  have S5 := Lib.hid (S4.out.read hb5)
  have B5 := Lib.hid (B4.out.trans (hb5.mono B4.out.size))
  clear hb5
  refine Lib.hid ?_
  go_wp2_with (go_at_call 11; refine (S5.out.get 0 0 0 10 (show _ = _ by decide +kernel) (show _ = _ by decide +kernel)).mono ?_; rintro e w6 ⟨rfl, hb6⟩; refine Hid.out ?_)
  have S6 := Lib.hid (S5.out.read hb6)
  have B6 := Lib.hid (B5.out.trans (hb6.mono B5.out.size))
  clear hb6
  refine Lib.hid ?_
  go_wp2_with (go_at_call 11; refine (S6.out.get 3 0 0 13 (show _ = _ by decide +kernel) (show _ = _ by decide +kernel)).mono ?_; rintro e w7 ⟨rfl, hb7⟩; refine Hid.out ?_)
  have S7 := Lib.hid (S6.out.read hb7)
  have B7 := Lib.hid (B6.out.trans (hb7.mono B6.out.size))
  clear hb7
  refine Lib.hid ?_
  go_wp2_with (go_at_call 11; refine (S7.out.get 1 2 0 2 (show _ = _ by decide +kernel) (show _ = _ by decide +kernel)).mono ?_; rintro e w8 ⟨rfl, hb8⟩; refine Hid.out ?_)
  have S8 := Lib.hid (S7.out.read hb8)
  have B8 := Lib.hid (B7.out.trans (hb8.mono B7.out.size))
  clear hb8
  refine Lib.hid ?_
  go_wp2_with (go_at_call 16; refine Hid.out ?_)
  have hb9 : Below w8.heap.size w8 (w8.alloc (.cells #[.int .i64 1] 3)) := (Below.refl _ _).alloc (Nat.le_refl _) _
  have hi9 : IRz (w8.alloc (.cells #[.int .i64 1] 3)) (some ⟨w8.heap.size, 0, none⟩) [1] := by
    refine fun _ => ⟨w8.heap.size, 0, rfl, by simp, fun k n hk => ?_⟩
    rcases k with _ | k
    · obtain rfl := (Option.some.inj hk).symm
      exact cell_new w8 #[.int .i64 1] 3 0
    · simp at hk
  have S9 := Lib.hid (S8.out.read hb9)
  have B9 := Lib.hid (B8.out.trans (hb9.mono B8.out.size))
  have HI9 := Lib.hid hi9
  clear hb9 hi9
  generalize w8.alloc (.cells #[.int .i64 1] 3) = w9 at *
  refine Lib.hid ?_
  refine (S9.out.reach 1 1 [1] _ HI9.out rfl (by omega)).mono ?_
  rintro e wa ⟨A, c, ls, hrc, _, rfl, hir, hba, hna⟩
  obtain rfl := rc3 hrc
  obtain ⟨rb, ro, rfl, hrb, hrcell⟩ := hir (by decide)
  have r1 := hrcell 1 2 rfl
  have SA := Lib.hid (S9.out.read hba)
  have BA := Lib.hid (B9.out.trans (hba.mono B9.out.size))
  clear hrc hir hba hna hrcell HI9 S1 S2 S3 S4 S5 S6 S7 S8 S9 B1 B2 B3 B4 B5 B6 B7 B8 B9
  go_wp2_with (go_at_call 15; refine (SA.out.near 1).mono ?_; rintro e wb ⟨NA, nc, rfl, _, hbb, _⟩; rw [nr1]; refine Hid.out ?_)
  have SB := Lib.hid (SA.out.read hbb)
  have BB := Lib.hid (BA.out.trans (hbb.mono BA.out.size))
  clear hbb
  refine Lib.hid ?_
  go_wp2_with (go_at_call 13; refine (SB.out.of 2 ⟨#[84]⟩ (show _ = _ by decide +kernel)).mono ?_; rintro e wc ⟨rfl, hbc⟩; refine Hid.out ?_)
  have SC := Lib.hid (SB.out.read hbc)
  have BC := Lib.hid (BB.out.trans (hbc.mono BB.out.size))
  clear hbc
  refine Lib.hid ?_
  go_wp2_with (first | (go_at_call 14; refine SC.out.len.mono ?_; rintro e wd ⟨rfl, rfl⟩; rw [show lenO (some H3) = 2 from rfl]) | (go_at_call 8; refine Hid.out ?_))
  have hbd : Below wc.heap.size wc (wc.alloc (.cells #[.string ⟨#[]⟩, .slice none 0 0] 52)) := (Below.refl _ _).alloc (Nat.le_refl _) _
  have hre : Hid (SR (wc.alloc (.cells #[.string ⟨#[]⟩, .slice none 0 0] 52)) (some ⟨wc.heap.size, 0, none⟩) [⟨⟨#[]⟩, []⟩]) := by
    have k := fun j => cell_new wc #[.string ⟨#[]⟩, .slice none 0 0] 52 j
    refine fun _ => ⟨wc.heap.size, 0, rfl, by simp, fun i s hs => ?_⟩
    rcases i with _ | i
    · obtain rfl := (Option.some.inj hs).symm
      exact ⟨none, 0, k 0, k 1, by decide, by decide, fun h => absurd h (by decide)⟩
    · simp at hs
  have BD := Lib.hid (BC.out.trans (hbd.mono BC.out.size))
  clear hbd
  generalize wc.alloc (.cells #[.string ⟨#[]⟩, .slice none 0 0] 52) = wd at *
  refine Lib.hid ?_
  refine (new_sp _ 1 1 [⟨⟨#[]⟩, []⟩] _ w wd BD.out.size (HK.out.below BD.out (Nat.le_refl _)) hre rfl (by omega) (by omega) nE).mono ?_
  rintro e we ⟨v2, rfl, be, se⟩
  obtain rfl : v2 = .pointer none := by obtain ⟨P, _, h⟩ := se; exact h
  clear se SA SB SC BA BB BC r1
  go_wp2_with fail
  go_ret
  exact ⟨rfl, BD.out.trans (be.mono BD.out.size)⟩

end Go.Proofs.YtjgmhkplgenieaaDoor
