/-
  LexPlaces: THE LAW's CONTRACT: it answers true for every text, in a world in which the listed variables lie as the program's text lays them; of what was there nothing has turned.
-/
import Derived.Test.YteikheaanefgbaaDoorLaid
import Derived.Test.YteikheaanefgbaaDoorMath
import Derived.IntWalk
namespace Go.Proofs.YteikheaanefgbaaDoor
open Go.RowKit

theorem scan_ok (s : ByteArray) (ts : List Tok) (w : World) (G : Good w) (hs : s.size ≤ 4096) (h : Hid (sc s.data.toList 0 = .ok ts)) :
    Calls Tryd.prog 8 #[.string s] w fun e w' => ∃ A c, e = .returned (.tuple #[.slice A ts.length c, .int .i64 0, .int .i64 0]) ∧ ts.length ≤ c ∧ TR w' A ts ∧ Below w.heap.size w w' := by
  refine (scan_any s (.ok ts) w G (by omega) (show scanR _ = _ by unfold scanR; rw [len_size, if_neg (by omega)]; exact h.out)).mono ?_
  rintro e w' ⟨hb, v, rfl, ho⟩
  obtain ⟨A, c, rfl, hc, ht⟩ := tr_own ho
  exact ⟨A, c, rfl, hc, ht, hb⟩
theorem scan_err (s : ByteArray) (p er : Nat) (w : World) (G : Good w) (hs : s.size ≤ 4096) (h : Hid (sc s.data.toList 0 = .bad p er)) :
    Calls Tryd.prog 8 #[.string s] w fun e w' => e = .returned (.tuple #[.slice none 0 0, .int .i64 p, .int .i64 er]) ∧ Below w.heap.size w w' := by
  refine (scan_any s (.bad p er) w G (by omega) (show scanR _ = _ by unfold scanR; rw [len_size, if_neg (by omega)]; exact h.out)).mono ?_
  rintro e w' ⟨hb, rfl⟩
  exact ⟨rfl, hb⟩

def PRel (l : List UInt8) (A : Option Addr) (ts : List Tok) (w : World) (en i : Value) (wr : World) : Prop :=
  ∃ k e : Nat, k ≤ ts.length ∧ e ≤ l.length ∧ en = .int .i64 e ∧ i = .int .i64 k ∧ Hid (Chain l e (ts.drop k)) ∧ Hid (TR wr A ts) ∧ Below w.heap.size w wr

def QRel (n : Nat) (W : World) (i : Value) (wr : World) : Prop := ∃ j nd : Nat, j ≤ n ∧ i = .int .i64 j ∧ wr = W.drewN nd
theorem same_at {ms ts : List Tok} (h : same ms ts) {j : Nat} (h1 : j < ms.length) (h2 : j < ts.length) : ms[j].kind = ts[j].kind ∧ ms[j].text = ts[j].text := by
  have := congrArg (fun l => l[j]?) h
  simp only [List.getElem?_map, List.getElem?_eq_getElem h1, List.getElem?_eq_getElem h2, Option.map_some, Option.some.injEq, Prod.mk.injEq] at this
  exact this
theorem join_to (A : Option Addr) (c : Nat) (ts : List Tok) (n : Nat) (x : ByteArray) (w : World) (hT : TR w A ts) (hn : Hid (ts.length = n)) (hn4 : n ≤ 4096) (hx : Hid (Lib.join (ts.map (·.text)) [32] = x.data.toList)) (hxs : x.size ≤ 140737488355328) :
    Calls Tryd.prog 16 #[.slice A n c] w fun e w' => e = .returned (.string x) ∧ Below w.heap.size w w' := by
  have h := hn.out
  subst h
  exact join_any A c ts x w hT (by omega) hx hxs

set_option maxRecDepth 100000 in
set_option maxHeartbeats 1000000 in
theorem places_walk (s : ByteArray) (w : World) (G : Good w) :
    Calls Tryd.prog 4 #[.string s] w fun e w' => e = .returned (.bool true) ∧ Below w.heap.size w w' := by
  go_enter Tryd.func4, Tryd.ntmps4
  go_wp2_with fail
  refine (awake_true w G).mono ?_
  rintro e w1 ⟨rfl, b1⟩
  have G1 := G.below b1
  have HG0 := Lib.hid G
  clear G
  by_cases hl : 4096 < s.size
  · have hl' : (4096 : Int) < (s.size : Int) := by omega
    go_wp2_with fail
    go_ret
    exact ⟨rfl, b1⟩
  · have hl' : ¬ (4096 : Int) < (s.size : Int) := by omega
    have hl2 : s.size ≤ 4096 := by omega
    cases hr : sc s.data.toList 0 with
    | bad p er =>
      obtain ⟨hp, he⟩ := sc_bad_lt s.data.toList _ 0 p er (Nat.le_refl _) hr
      rw [len_size] at hp
      have HR := Lib.hid hr
      have he1 : ((er : Int) != 0) = true := by simpa using he
      clear hr he
      go_wp2_with fail
      refine (scan_err s p er _ G1 hl2 HR).mono ?_
      rintro e w2 ⟨rfl, b2⟩
      have d2 := b1.trans (b2.mono b1.size)
      clear b1 b2 G1
      go_wp2_with fail
      go_ret
      exact ⟨rfl, d2⟩
    | ok ts =>
      obtain ⟨hch, hok, hln⟩ := sc_chain s.data.toList _ 0 ts (Nat.le_refl _) (Nat.zero_le _) hr
      rw [len_size] at hln
      have HR := Lib.hid hr
      have HCH := Lib.hid hch
      have HOK := Lib.hid hok
      obtain ⟨n, hn⟩ : ∃ n, ts.length = n := ⟨_, rfl⟩
      have HN := Lib.hid hn
      have hn4 : n ≤ 4096 := by omega
      clear hr hch hok hln
      go_wp2_with fail
      refine (scan_ok s ts _ G1 hl2 HR).mono ?_
      rw [hn]
      rintro e w2 ⟨A, c, rfl, hcap, ht, b2⟩
      have d2 := b1.trans (b2.mono b1.size)
      have G2 := G1.below b2
      have HT := Lib.hid ht
      clear b1 b2 G1 ht hn
      go_wp2_with fail
      go_loopw [6, 7] (fun en i wr => PRel s.data.toList A ts w en i wr) (fun _ i _ => ts.length - (intOf i).toNat)
      case atStart => exact ⟨0, 0, Nat.zero_le _, Nat.zero_le _, rfl, rfl, HCH, HT, d2⟩
      case round =>
        obtain ⟨k, en, hk, hen, rfl, rfl, HC, HTR, hb⟩ := hrel
        have hkn : k ≤ n := by have := HN.out; omega
        by_cases hlt : k < n
        · obtain ⟨g, rfl, hg, hcs⟩ := HTR.out (by have := HN.out; omega)
          have hkl : k < ts.length := by have := HN.out; omega
          have hch := HC.out
          rw [List.drop_eq_getElem_cons hkl] at hch
          obtain ⟨c0, c1, c2⟩ := hcs k ts[k] (List.getElem?_eq_getElem hkl)
          generalize ts[k] = t at hch c0 c1 c2
          obtain ⟨tk, tt, tp⟩ := t
          obtain ⟨q1, q2, q3, q4, q5⟩ := hch
          simp only at q1 q2 q3 q4 q5 c0 c1 c2
          rw [len_size] at q3
          obtain ⟨x, hx⟩ : ∃ x : ByteArray, (⟨tt.toArray⟩ : ByteArray) = x := ⟨_, rfl⟩
          have hxs : tt.length = x.size := by rw [← hx]; rfl
          rw [hx] at c1
          rw [hxs] at q2 q3 q4 q5
          have hxe : s.extract tp (tp + x.size) = x := by
            refine Go.WideShapes.bytes_inj ?_
            rw [cut_extract, show tp + x.size - tp = x.size by omega, q4, ← hx]
          have hsl : ∀ W, (Instr.slice 9 (.string s) (some (.int .i64 tp)) (some (.int .i64 ((tp : Int) + x.size))) none).run Tryd.prog W = .ok (.string x) W := fun W => by
            have := slice_run s tp (tp + x.size) (by omega) q3 W
            rw [hxe] at this
            exact this
          have HQ5 := Lib.hid q5
          have HCS := Lib.hid hcs
          clear hx hxs hxe q4 hcs q5 hkl
          have f1 : decide (tp < en) = false := decide_eq_false (by omega)
          have f1' : decide ((tp : Int) < (en : Int)) = false := decide_eq_false (by omega)
          have f2 : (x.size == 0) = false := beq_eq_false_iff_ne.2 (by omega)
          have f2' : ((x.size : Int) == 0) = false := beq_eq_false_iff_ne.2 (by omega)
          have f3 : decide ((s.size : Int) < (tp : Int) + (x.size : Int)) = false := decide_eq_false (by omega)
          have f4 : IntKind.i64.wrap ((tp : Int) + (x.size : Int)) = (tp : Int) + (x.size : Int) := IntWalk.i64_in _ (by omega)
          go_wp2_with fail
          go_quiet (fail)
          clear f4
          go_wp2_with fail
          have bb : Below wr.heap.size wr ((wr.alloc (Obj.cells #[Value.int IntKind.i64 ↑tk, Value.string x, Value.int IntKind.i64 ↑tp] 32)).drewN nq) := below_drewN ((Below.refl _ _).alloc (Nat.le_refl _) _) _
          refine ⟨⟨k + 1, tp + x.size, by have := HN.out; omega, by rw [len_size]; exact q3, by go_num, by go_num, HQ5, HTR.out.below bb, hb.trans (bb.mono hb.size)⟩, ?_⟩
          have := HN.out
          simp [intOf]; omega
        · have hjl := join_len s.data.toList ts HCH.out
          rw [len_size] at hjl
          obtain ⟨x, hx⟩ : ∃ x : ByteArray, Lib.join (ts.map (·.text)) [32] = x.data.toList := ⟨⟨(Lib.join (ts.map (·.text)) [32]).toArray⟩, by simp⟩
          obtain ⟨ms, hms, hsame⟩ := scan_join ts HOK.out
          rw [hx] at hjl hms
          rw [len_size] at hjl
          have HX := Lib.hid hx
          have HMS := Lib.hid hms
          have HSM := Lib.hid hsame
          have Gr : Good wr := HG0.out.below hb
          clear hx hms hsame HC
          go_wp2_with fail
          refine (join_to A c ts n x _ HTR.out HN hn4 HX (by omega)).mono ?_
          rintro e w3 ⟨rfl, b3⟩
          have d3 := hb.trans (b3.mono hb.size)
          have HT3 := Lib.hid (HTR.out.below b3)
          have G3 := Gr.below b3
          clear b3 Gr HTR hb
          by_cases hxl : 4096 < x.size
          · have hxl' : (4096 : Int) < (x.size : Int) := by omega
            go_wp2_with fail
            go_ret
            exact ⟨rfl, d3⟩
          · have hxl' : ¬ (4096 : Int) < (x.size : Int) := by omega
            have hmn : ms.length = n := by
              have := congrArg List.length HSM.out
              rw [List.length_map, List.length_map] at this
              rw [this]; exact HN.out
            have HMN := Lib.hid hmn
            go_wp2_with fail
            refine (scan_ok x ms _ G3 (by omega) HMS).mono ?_
            rw [hmn]
            rintro e w4 ⟨A2, c2, rfl, hcap2, ht2, b4⟩
            have d4 := d3.trans (b4.mono d3.size)
            have HT4 := Lib.hid (HT3.out.below b4)
            have HM4 := Lib.hid ht2
            clear b4 d3 HT3 ht2 G3 hmn
            go_wp2_with fail
            go_loopw [13] (fun i wr => QRel n w4 i wr) (fun i _ => n - (intOf i).toNat)
            case atStart => exact ⟨0, 0, Nat.zero_le _, rfl, rfl⟩
            case round =>
              obtain ⟨j, nd, hj, rfl, rfl⟩ := hrel
              by_cases hlt2 : j < n
              · obtain ⟨g, rfl, hg, hcs⟩ := HT4.out (by have := HN.out; omega)
                obtain ⟨g2, rfl, hg2, hcs2⟩ := HM4.out (by have := HMN.out; omega)
                have hjl1 : j < ts.length := by have := HN.out; omega
                have hjl2 : j < ms.length := by have := HMN.out; omega
                obtain ⟨c0, c1, -⟩ := hcs j ts[j] (List.getElem?_eq_getElem hjl1)
                obtain ⟨e0, e1, -⟩ := hcs2 j ms[j] (List.getElem?_eq_getElem hjl2)
                obtain ⟨s1, s2⟩ := same_at HSM.out hjl2 hjl1
                rw [s1] at e0
                rw [s2] at e1
                generalize (⟨ts[j].text.toArray⟩ : ByteArray) = y at c1 e1
                generalize ts[j].kind = kd at c0 e0
                have HCS := Lib.hid hcs
                have HCS2 := Lib.hid hcs2
                clear hcs hcs2 s1 s2 hjl1 hjl2
                go_wp2_with fail
                go_quiet (fail)
                go_wp2_with fail
                refine ⟨⟨j + 1, _, by omega, by go_num, rfl⟩, ?_⟩
                simp [intOf]; omega
              · go_wp2_with fail
                go_ret
                exact ⟨rfl, below_drewN d4 _⟩

end Go.Proofs.YteikheaanefgbaaDoor
