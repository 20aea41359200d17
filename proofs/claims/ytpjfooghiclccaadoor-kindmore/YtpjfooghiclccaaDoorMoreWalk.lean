/-
  KindMore: THE LAW's CONTRACT: it answers true for every row of structs, row of fields and type, in a world in which the table of keys lies as the program's text lays it; of what was there nothing has turned.
-/
import Derived.Test.YtpjfooghiclccaaDoorReachWalk
import Derived.Test.YtpjfooghiclccaaDoorMore
import Derived.Laws.AppendOwnNone
namespace Go.Proofs.YtpjfooghiclccaaDoor
open Go.RowKit

/-- The cells of the first m structs of a row. -/
def rawS (w : World) (b o m : Nat) : List Value := (List.range (m * 2)).map fun j => (w.cell? ⟨b, o + j, none⟩).getD (.bool false)
theorem rawS_at {w : World} {b o m j : Nat} {u : Value} (hj : j < m * 2) (h : w.cell? ⟨b, o + j, none⟩ = some u) : (rawS w b o m)[j]? = some u := by
  unfold rawS
  rw [List.getElem?_map, List.getElem?_range hj]
  show some ((w.cell? ⟨b, o + j, none⟩).getD (.bool false)) = _
  rw [h]; rfl
theorem rawS_cell {w : World} {b o : Nat} {ss : List Str} (h : ∀ i s, ss[i]? = some s → StrAt w b o i s) {j : Nat} (hj : j < ss.length * 2) : ∃ u, w.cell? ⟨b, o + j, none⟩ = some u ∧ u.oneCell' = true := by
  have hi : j / 2 < ss.length := by omega
  obtain ⟨A, c, x, y, _⟩ := h (j / 2) ss[j / 2] (List.getElem?_eq_getElem hi)
  rcases Nat.mod_two_eq_zero_or_one j with h0 | h0
  · have e : o + j / 2 * 2 = o + j := by omega
    rw [e] at x
    exact ⟨_, x, rfl⟩
  · have e : o + j / 2 * 2 + 1 = o + j := by omega
    rw [e] at y
    exact ⟨_, y, rfl⟩

/-- Where the row's cells are, nil let in. -/
def RawAt (w : World) (A : Option Addr) (m c : Nat) (news : List Value) : Prop := (A = none ∧ m = 0 ∧ c = 0 ∧ news = []) ∨ ∃ ad, A = some ad ∧ news.length = m * 2 ∧ (∀ j u, news[j]? = some u → w.cell? (ad.add j) = some u) ∧ ∀ u ∈ news, u.oneCell' = true

theorem cell_lt {w : World} {a : Addr} {v : Value} (h : w.cell? a = some v) : a.block < w.heap.size := by
  unfold World.cell? at h
  cases hb : w.heap[a.block]? with
  | none => rw [hb] at h; cases h
  | some ob => exact (Array.getElem?_eq_some_iff.1 hb).1
theorem RawAt.below {w w' : World} {A : Option Addr} {m c : Nat} {news : List Value} (h : RawAt w A m c news) (hb : Below w.heap.size w w') : RawAt w' A m c news := by
  rcases h with h | ⟨ad, h1, h2, h3, h4⟩
  · exact .inl h
  · exact .inr ⟨ad, h1, h2, fun j u hu => (hb.cell (cell_lt (h3 j u hu))).trans (h3 j u hu), h4⟩

theorem wpList_appS {w : World} {ops : Array Oper} {rest : List Oper} {o : Oper} {a : Act} {Q : Exit → Act → World → Prop} (hgd : o.guard = none) (s x : Operand) (ho : o.op = .call { callee := .builtin .append, args := #[s, x], argTypes := #[22, 22] })
    (base : Nat) (i : TypeInfo) (z : Value) (hi : Tryd.prog.info? 43 = some i) (hz : i.zero = some z) (hsize : i.size = 2) (hby : i.bytes = 40) (hzs : z.cells.size = 2) (v : Value) (n : Nat) (xs : List Value) (hs : a.eval s = v) (hown : w.ownsRow base 43 2 v n xs)
    (A : Option Addr) (m c : Nat) (news : List Value) (hx : a.eval x = .slice A m c) (hr : RawAt w A m c news) (h63 : n + m ≤ maxLen) (hbytes : (n + m) * 40 ≤ 140737488355328) (hbase : base ≤ w.heap.size)
    (h : ∀ v' w', w'.ownsRow base 43 2 v' (n + m) (xs ++ news) → w.grownBy w' v.ownBlock → wpList Tryd.prog ops Q rest (a.put o.dst v') w') : wpList Tryd.prog ops Q (o :: rest) a w := by
  rcases hr with ⟨rfl, rfl, rfl, rfl⟩ | ⟨ad, rfl, h1, h2, h3⟩
  · refine wpList_append_own_none hgd s x 22 ho base 43 i 2 Tryd.underlying22 hi v n xs hs hown hx (h v w ?_ (World.grownBy.refl w _))
    simpa using hown
  · exact wpList_append_own_at w hgd s x 22 ho base 43 i z 2 40 Tryd.underlying22 hi hz hsize hby hzs (by omega) v n xs hs hown ad m c news hx h1 h2 h3 h63 hbytes hbase (fun v' w' a1 a2 _ _ => h v' w' a1 a2)

theorem struct_info : (Tryd.prog.info? 43).map (fun i => (i.zero, i.size, i.bytes)) = some (some (.agg #[.string ⟨#[]⟩, .slice none 0 0]), 2, 40) := by kernel_rfl

theorem raw_of {w : World} {A : Option Addr} {ss : List Str} {m c : Nat} (hR : SR w A ss) (hm : ss.length = m) (hnil : A = none → c = 0) :
    ∃ news, RawAt w A m c news ∧ news.length = m * 2 ∧ ∀ (i : Nat) (s : Str), ss[i]? = some s → ∃ FA fc, news[i * 2]? = some (.string s.name) ∧ news[i * 2 + 1]? = some (.slice FA s.fields.length fc) ∧ s.fields.length ≤ fc ∧ s.fields.length ≤ 281474976710656 ∧ FR w FA s.fields := by
  subst hm
  rcases Nat.eq_zero_or_pos ss.length with h0 | h0
  · refine ⟨[], ?_, by rw [h0]; rfl, fun i s hs => by have := (List.getElem?_eq_some_iff.1 hs).1; omega⟩
    cases A with
    | none => exact .inl ⟨rfl, h0, hnil rfl, rfl⟩
    | some ad => exact .inr ⟨ad, rfl, by rw [h0]; rfl, fun j u hu => by simp at hu, fun u hu => by cases hu⟩
  · obtain ⟨b, o, rfl, hb, hcs⟩ := hR h0
    refine ⟨rawS w b o ss.length, .inr ⟨_, rfl, by unfold rawS; simp, fun j u hu => ?_, fun u hu => ?_⟩, by unfold rawS; simp, fun i s hs => ?_⟩
    · have hj : j < ss.length * 2 := by
        rcases Nat.lt_or_ge j (ss.length * 2) with h | h
        · exact h
        · rw [List.getElem?_eq_none (by unfold rawS; simp; exact h)] at hu; cases hu
      obtain ⟨v, hv, _⟩ := rawS_cell hcs hj
      rw [rawS_at hj hv] at hu
      obtain rfl := Option.some.inj hu
      rw [Go.Addr.add_lit]; exact hv
    · obtain ⟨j, hj, rfl⟩ := List.mem_iff_getElem.1 hu
      have hj' : j < ss.length * 2 := by unfold rawS at hj; simpa using hj
      obtain ⟨v, hv, h1⟩ := rawS_cell hcs hj'
      have := rawS_at hj' hv
      rw [List.getElem?_eq_getElem hj] at this
      rw [Option.some.inj this]; exact h1
    · have hi := (List.getElem?_eq_some_iff.1 hs).1
      obtain ⟨FA, fc, x, y, z1, z2, z3⟩ := hcs i s hs
      exact ⟨FA, fc, rawS_at (by omega) x, rawS_at (by omega) y, z1, z2, z3⟩
theorem news2 (w : World) (e : TypeId) (a b : Value) : ∀ j u, [a, b][j]? = some u → (w.alloc (.cells #[a, b] e)).cell? ((⟨w.heap.size, 0, none⟩ : Addr).add j) = some u := by
  have h := heap_alloc_new w (.cells #[a, b] e)
  exact World.news_of_block h
theorem sr_more {w w4 : World} {base g cap : Nat} {ss : List Str} {m : Nat} {fs : List Fld} {FA : Option Addr} {fm fc : Nat} {news : List Value} (hm : ss.length = m) (hfm : fs.length = fm) (hfc : fm ≤ fc) (hfl : fm ≤ 281474976710656)
    (hF : FR w FA fs) (hn : news.length = m * 2) (hs : ∀ (i : Nat) (s : Str), ss[i]? = some s → ∃ FA fc, news[i * 2]? = some (.string s.name) ∧ news[i * 2 + 1]? = some (.slice FA s.fields.length fc) ∧ s.fields.length ≤ fc ∧ s.fields.length ≤ 281474976710656 ∧ FR w FA s.fields)
    (ho : w4.ownsRow base 43 2 (.slice (some ⟨g, 0, none⟩) (m + 1) cap) (m + 1) (news ++ [.string zz, .slice FA fm fc])) (hb : Below w.heap.size w w4) : SR w4 (some ⟨g, 0, none⟩) (ss ++ [⟨zz, fs⟩]) := by
  subst hm
  subst hfm
  refine fun _ => ⟨g, 0, rfl, (ho.lt g rfl).2, fun i s hi => ?_⟩
  have hcell : ∀ j, j < (ss.length + 1) * 2 → w4.cell? ⟨g, 0 + j, none⟩ = (news ++ [.string zz, .slice FA fs.length fc])[j]? := fun j hj => by rw [Nat.zero_add]; exact ho.cellAt j hj
  rcases Nat.lt_or_ge i ss.length with hl | hl
  · rw [List.getElem?_append_left hl] at hi
    obtain ⟨FA', fc', x, y, z1, z2, z3⟩ := hs i s hi
    refine ⟨FA', fc', ?_, ?_, z1, z2, z3.below hb (Nat.le_refl _)⟩
    · rw [hcell (i * 2) (by omega), List.getElem?_append_left (by omega)]; exact x
    · rw [Nat.add_assoc, hcell (i * 2 + 1) (by omega), List.getElem?_append_left (by omega)]; exact y
  · have hi2 : i = ss.length := by
      have := (List.getElem?_eq_some_iff.1 hi).1
      simp at this; omega
    subst hi2
    obtain rfl : (⟨zz, fs⟩ : Str) = s := by simpa using hi
    refine ⟨FA, fc, ?_, ?_, hfc, hfl, hF.below hb (Nat.le_refl _)⟩
    · rw [hcell (ss.length * 2) (by omega), List.getElem?_append_right (by omega), hn, Nat.sub_self]; rfl
    · rw [Nat.add_assoc, hcell (ss.length * 2 + 1) (by omega), List.getElem?_append_right (by omega), hn, show ss.length * 2 + 1 - ss.length * 2 = 1 by omega]; rfl
theorem gr_bound {ss : List Str} (h : grB ss = false) : ss.length ≤ 16 ∧ ∀ s ∈ ss, s.fields.length ≤ 12 := by
  unfold grB at h
  rw [Bool.or_eq_false_iff] at h
  refine ⟨by have := of_decide_eq_false h.1; omega, fun s hs => ?_⟩
  have := List.any_eq_false.1 h.2 s hs
  unfold grS at this
  simp at this
  omega

set_option maxRecDepth 100000 in
set_option maxHeartbeats 1000000 in
theorem more_walk (A : Option Addr) (c m : Nat) (ss : List Str) (FA : Option Addr) (fc fm : Nat) (fs : List Fld) (t : ByteArray) (w : World) (G : KeysIn w) (hR : SR w A ss) (hF : FR w FA fs) (hm : Hid (ss.length = m)) (hl : m * 40 ≤ 140737488351232) (hmc : m ≤ c)
    (hnil : Hid (A = none → c = 0)) (hfm : Hid (fs.length = fm)) (hfl : fm ≤ 281474976710656) (hfc : fm ≤ fc) :
    Calls Tryd.prog 6 #[.slice A m c, .slice FA fm fc, .string t] w fun e w' => e = .returned (.bool true) ∧ Below w.heap.size w w' := by
  obtain ⟨i0, hi0, hz0, hz1, hz2⟩ := info_parts struct_info
  have HI0 := Lib.hid hi0
  have HZ0 := Lib.hid hz0
  have HZ1 := Lib.hid hz1
  have HZ2 := Lib.hid hz2
  clear hi0 hz0 hz1 hz2
  go_enter Tryd.func6, Tryd.ntmps6
  go_wp2_with fail
  refine (awake_true w G).mono ?_
  rintro e w1 ⟨rfl, b1⟩
  have HG := Lib.hid G
  have HR := Lib.hid hR
  have HF := Lib.hid hF
  clear G hR hF
  have b1a := b1.alloc b1.size (.cells #[] 43)
  obtain ⟨news, hraw, hnl, hns⟩ := raw_of HR.out hm.out hnil.out
  have O1 : Hid ((w1.alloc (.cells #[] 43)).ownsRow w.heap.size 43 2 (.slice (some ⟨w1.heap.size, 0, none⟩) 0 0) 0 []) := World.ownsRow_lit w1 #[] 0 b1.size (by simp only [maxLen]; omega) rfl
  have HRAW := Lib.hid (hraw.below b1a)
  have HNL := Lib.hid hnl
  have HNS := Lib.hid hns
  have B1a := Lib.hid b1a
  have hz1 := b1.size
  clear hraw hnl hns b1a
  go_wp2_with (at_builtin; refine Hid.out ?_)
  refine Lib.hid ?_
  refine wpList_appS rfl (.tmp 17) (.tmp 18) rfl w.heap.size i0 _ HI0.out HZ0.out HZ1.out HZ2.out rfl _ 0 [] rfl O1.out A m c news rfl HRAW.out (by simp only [maxLen]; omega) (by omega) (by simp; omega) ?_
  intro v1 w2 hown1 hg1
  have B2 := Lib.hid (B1a.out.grown hg1 (by simp; omega) (fun k hk => by have e : w1.heap.size = k := Option.some.inj hk; omega))
  have O2 : Hid (w2.ownsRow w.heap.size 43 2 v1 m news) := by
    show World.ownsRow _ _ _ _ _ _ _
    rw [Nat.zero_add, List.nil_append] at hown1; exact hown1
  have hz2 := B2.out.size
  clear hown1 hg1 O1 HRAW
  go_wp2_with (at_builtin; refine Hid.out ?_)
  refine Lib.hid ?_
  refine wpList_append_lies _ rfl (.tmp 19) (.tmp 22) _ rfl w.heap.size 43 i0 _ 2 40 Tryd.underlying22 HI0.out HZ0.out HZ1.out HZ2.out rfl (by omega) v1 m news rfl (by exact O2.out.alloc _) ⟨w2.heap.size, 0, none⟩ 1 1 [.string zz, .slice FA fm fc] rfl rfl (by exact news2 w2 43 _ _) (by simp [Value.oneCell']) (by omega) (by simp only [maxLen]; omega) (by omega) (by simp; omega) (w2.heap.size + 1) (by simp) ?_
  intro g cap w3 hown3 hg3 hat3 hlt3
  have B3 := Lib.hid ((B2.out.alloc hz2 (.cells #[.string zz, .slice FA fm fc] 43)).grown hg3 (by simp; omega) (fun k hk => (O2.out.lt k hk).1))
  have hcap := (own_cap hown3).1
  have R3 := Lib.hid (sr_more hm.out hfm.out hfc hfl HF.out HNL.out HNS.out hown3 B3.out)
  obtain ⟨mo, hmo⟩ : ∃ mo, ss ++ [Str.mk zz fs] = mo := ⟨_, rfl⟩
  rw [hmo] at R3
  have HMO := Lib.hid hmo
  have HML : Hid (mo.length = m + 1) := by show _ = _; rw [← hmo]; simp [hm.out]
  clear hown3 hg3 hat3 hlt3 HNL HNS O2 hmo B2 B1a b1 HI0 HZ0 HZ1 HZ2 hz2 hz1
  obtain ⟨gb, hgb⟩ : ∃ gb, grB mo = gb := ⟨_, rfl⟩
  have HGB := Lib.hid hgb
  clear hgb
  cases gb with
  | true =>
    go_wp2_with (go_at_call 8; refine (great_any _ cap (m + 1) mo true _ R3.out HML (by omega) HGB).mono ?_; rintro e w' ⟨rfl, rfl⟩)
    go_ret
    exact ⟨rfl, B3.out⟩
  | false =>
    obtain ⟨hg1, hg2⟩ := gr_bound HGB.out
    have hm15 : m ≤ 15 := by have := HML.out; omega
    have HFL' := Lib.hid hg2
    have HFL : Hid (∀ s ∈ ss, s.fields.length ≤ 12) := fun s hs => hg2 s (by rw [← HMO.out]; exact List.mem_append_left _ hs)
    clear hg1 hg2
    by_cases h100 : 100 < t.size
    · have h100' : (100 : Int) < (t.size : Int) := by omega
      go_wp2_with (go_at_call 8; refine (great_any _ cap (m + 1) mo false _ R3.out HML (by omega) HGB).mono ?_; rintro e w' ⟨rfl, rfl⟩)
      go_ret
      exact ⟨rfl, B3.out⟩
    · have h100' : ¬ (100 : Int) < (t.size : Int) := by omega
      cases hz : eqB t starZz with
      | true =>
        have s1 : (t.toList == [42, 90, 122, 57]) = true := by rw [ByteArray.toList_eq]; exact hz
        clear hz
        go_wp2_with (go_at_call 8; refine (great_any _ cap (m + 1) mo false _ R3.out HML (by omega) HGB).mono ?_; rintro e w' ⟨rfl, rfl⟩)
        go_ret
        exact ⟨rfl, B3.out⟩
      | false =>
        have s1 : (t.toList == [42, 90, 122, 57]) = false := by rw [ByteArray.toList_eq]; exact hz
        have HNZ : Hid (t ≠ starZz) := fun e => by rw [e, eqB_iff.2 rfl] at hz; cases hz
        clear hz
        go_wp2_with (go_at_call 8; refine (great_any _ cap (m + 1) mo false _ R3.out HML (by omega) HGB).mono ?_; rintro e w' ⟨rfl, rfl⟩)
        clear s1 h100 h100' HGB
        obtain ⟨p, er, hch⟩ : ∃ p er, chk ss = (p, er) := ⟨_, _, rfl⟩
        have HCH := Lib.hid hch
        have G3 := Lib.hid (HG.out.below B3.out (Nat.le_refl _))
        have L3 := Lib.hid (HR.out.below B3.out (Nat.le_refl _))
        clear hch
        refine (check_any A c m ss p er _ G3.out L3.out hm (by omega) hmc HCH).mono ?_
        rintro e w4 ⟨rfl, b4⟩
        have B4 := Lib.hid (below_on B3.out b4)
        have R4 := Lib.hid (R3.out.below b4 (Nat.le_refl _))
        clear B3 R3 G3 L3 b4
        by_cases he : er = 0
        · subst he
          obtain ⟨p', er', hch'⟩ : ∃ p er, chk mo = (p, er) := ⟨_, _, rfl⟩
          have HCH' := Lib.hid hch'
          have G4 := Lib.hid (HG.out.below B4.out (Nat.le_refl _))
          clear hch'
          go_wp2_with fail
          refine (check_any _ cap (m + 1) mo p' er' _ G4.out R4.out HML (by omega) hcap HCH').mono ?_
          rintro e w5 ⟨rfl, b5⟩
          have B5 := Lib.hid (below_on B4.out b5)
          have R5 := Lib.hid (R4.out.below b5 (Nat.le_refl _))
          clear B4 R4 G4 b5
          by_cases he' : er' = 0
          · subst he'
            have G5 := Lib.hid (HG.out.below B5.out (Nat.le_refl _))
            have L5 := Lib.hid (HR.out.below B5.out (Nat.le_refl _))
            go_wp2_with fail
            refine (reach_to A c m ss t _ G5 L5 hm (by omega) HFL).mono ?_
            rintro e w6 ⟨fl, RA, rc, nr, hFl, hnr, hnm, rfl, hrc, hTR, b6⟩
            have B6 := Lib.hid (below_on B5.out b6)
            have R6 := Lib.hid (R5.out.below b6 (Nat.le_refl _))
            have T6 := Lib.hid hTR
            have HFlg := Lib.hid hFl
            have HNR := Lib.hid hnr
            have G6 := Lib.hid (HG.out.below B6.out (Nat.le_refl _))
            have hnr16 : nr ≤ 16 := by have := hm.out; omega
            clear B5 R5 G5 L5 b6 hTR hFl hnr hnm
            go_wp2_with fail
            refine (reach_to _ cap (m + 1) mo t _ G6 R6 HML (by omega) HFL').mono ?_
            rintro e w7 ⟨fl', RA', rc', nr', hFl', hnr', hnm', rfl, hrc', hTR', b7⟩
            have hnn : namesOf mo fl' mo.length = namesOf ss fl ss.length := by
              have h1 := HMO.out
              subst h1
              exact names_more HCH.out HCH'.out HNZ.out HFlg.out hFl'
            have hnq : nr' = nr := by rw [← hnr', hnn]; exact HNR.out
            subst hnq
            rw [hnn] at hTR'
            have B7 := Lib.hid (below_on B6.out b7)
            have R7 := Lib.hid (R6.out.below b7 (Nat.le_refl _))
            have T7 := Lib.hid (T6.out.below b7 (Nat.le_refl _))
            have T7' := Lib.hid hTR'
            have G7 := Lib.hid (HG.out.below B7.out (Nat.le_refl _))
            clear B6 R6 G6 T6 b7 hTR' hFl' hnr' hnm' hnn
            go_wp2_with fail
            refine (reach_to _ cap (m + 1) mo _ _ G7 R7 HML (by omega) HFL').mono ?_
            rintro e w8 ⟨fl2, RA2, rc2, nr2, hFl2, hnr2, hnm2, rfl, hrc2, hTR2, b8⟩
            have HHAS : Hid (hasB (namesOf mo fl2 mo.length) zz = true) := by
              refine has_iff.2 ((names_mem hFl2).2 ⟨m, ⟨zz, fs⟩, .base ?_, ?_, rfl⟩)
              · have h1 := HMO.out
                subst h1
                have h2 := fnd_zz HCH'.out
                rw [hm.out] at h2
                rw [show (⟨#[42, 90, 122, 57]⟩ : ByteArray) = starT ++ zz from star_zz.symm]
                exact tgt_star zz_word h2
              · rw [← HMO.out, ← hm.out]; exact at_new'
            have B8 := Lib.hid (below_on B7.out b8)
            have R8 := Lib.hid (R7.out.below b8 (Nat.le_refl _))
            have T8 := Lib.hid (T7.out.below b8 (Nat.le_refl _))
            have T8' := Lib.hid (T7'.out.below b8 (Nat.le_refl _))
            have T82 := Lib.hid hTR2
            have HNR2 := Lib.hid hnr2
            have hnr216 : nr2 ≤ 16 := by have := HML.out; omega
            clear B7 R7 T7 T7' G7 b8 hTR2 hFl2 hnr2 hnm2
            go_wp2_with fail
            refine (has_any RA2 rc2 nr2 _ zz true _ T82.out HNR2 (by omega) HHAS).mono ?_
            rintro e w' ⟨rfl, rfl⟩
            clear T82 HNR2 HHAS
            go_wp2_with fail
            go_loopw [14] (fun i wr => KRel w8 nr' i wr) (fun i _ => nr' - (intOf i).toNat)
            case atStart => exact ⟨0, Nat.zero_le _, rfl, Below.refl _ _⟩
            case round =>
              obtain ⟨k, hk, rfl, hb⟩ := hrel
              by_cases hlt : k < nr'
              · obtain ⟨x, hx⟩ : ∃ x, (namesOf ss fl ss.length)[k]? = some x := ⟨_, List.getElem?_eq_getElem (by have := HNR.out; omega)⟩
                obtain ⟨rb, ro, hRA, hrb, hc1⟩ := (T8.out.below hb (Nat.le_refl _)) (by have := HNR.out; omega)
                obtain ⟨rb', ro', hRA', hrb', hc2⟩ := (T8'.out.below hb (Nat.le_refl _)) (by have := HNR.out; omega)
                have r0 := hc1 k x hx
                have r1 := hc2 k x hx
                have HB := Lib.hid hb
                have p1 : (0 : Int) ≤ (k : Int) := by omega
                have p2 : (k : Int) < (nr' : Int) := by omega
                subst hRA
                subst hRA'
                clear hc1 hc2 hx hb
                go_wp2_with fail
                go_quiet (fail)
                have HB' := Lib.hid (below_drewN HB.out nq)
                clear HB r0 r1
                go_wp2_with fail
                refine ⟨⟨k + 1, by omega, by go_num, HB'.out⟩, ?_⟩
                simp [intOf]; omega
              · have B9 := Lib.hid (below_on B8.out hb)
                have R9 := Lib.hid (R8.out.below hb (Nat.le_refl _))
                have HIS : Hid (isT mo starZz = true) := by
                  show _ = _
                  have h1 := HMO.out
                  subst h1
                  rw [← star_zz]
                  exact star_is (fnd_zz HCH'.out)
                go_wp2_with fail
                refine (is_any _ cap (m + 1) mo starZz true _ R9 HML (by omega) HIS).mono ?_
                rintro e w9 ⟨rfl, b9⟩
                have B10 := Lib.hid (below_on B9.out b9)
                have R10 := Lib.hid (R9.out.below b9 (Nat.le_refl _))
                have L10 := Lib.hid (HR.out.below B10.out (Nat.le_refl _))
                have HNE : Hid (false = true ↔ ss = mo) := show _ ↔ _ from ⟨(fun h => by cases h), fun h => by have h1 := hm.out; have h2 := HML.out; rw [← h] at h2; omega⟩
                clear b9 B9 R9 hb
                go_wp2_with fail
                refine (same_any A _ c cap m (m + 1) ss mo false _ L10.out R10.out hm HML (by omega) HNE).mono ?_
                rintro e w10 ⟨rfl, b10⟩
                have B11 := below_on B10.out b10
                go_wp2_with fail
                go_ret
                exact ⟨rfl, B11⟩
          · have hne : ((er' : Int) != 0) = true := by simp; omega
            go_wp2_with fail
            go_ret
            exact ⟨rfl, B5.out⟩
        · have hne : ((er : Int) != 0) = true := by simp; omega
          go_wp2_with fail
          go_ret
          exact ⟨rfl, B4.out⟩

end Go.Proofs.YtpjfooghiclccaaDoor
