/-
  THE WALK of the statement that each answer is the document's: it answers true, and of what was there nothing has turned. Conditions: the table of keys lies as the program's text lays it; the arguments read as structs, deeds and numbers.
-/
import Derived.Test.YtjgmhkplgenieaaDoorUPair
import Derived.Test.YtjgmhkplgenieaaDoorRefCheck
import Derived.Deep.DeepCutAuto
import Derived.Deep.CutBlock
namespace Go.Proofs.YtjgmhkplgenieaaDoor
open Go.RowKit

def z5 : Array Value := #[.int .i64 0, .string ⟨#[]⟩, .int .i64 0, .int .i64 0, .int .i64 0]
theorem zero46 (w : World) : (zeroValue 46).run Tryd.prog w = .ok (.agg z5) w := by kernel_rfl
theorem info46 : (Tryd.prog.info? 46).map (·.size) = some 5 := by kernel_rfl
def ExLoop (W : World) (ub : Nat) (A : Option Addr) (m c : Nat) (ss : List Str) (n : Nat) (v i : Value) (wr : World) : Prop :=
  ∃ (k : Nat) (H : Hp), k ≤ n ∧ i = .int .i64 k ∧ Hid (XR W NoF v ub A m c ss H H wr)
structure ExL (W : World) (ub : Nat) (A : Option Addr) (m c : Nat) (ss : List Str) (n : Nat) (v i : Value) (wr : World) : Prop where
  h : ExLoop W ub A m c ss n v i wr
def ExScan (W : World) (v : Value) (ub : Nat) (A : Option Addr) (m c : Nat) (ss : List Str) (H : Hp) (n : Nat) (i : Value) (wr : World) : Prop :=
  ∃ k : Nat, k ≤ n ∧ i = .int .i64 k ∧ Hid (XR W NoF v ub A m c ss H H wr)
theorem of_no {H : Hp} {o : Int} (h : ¬ hasO (some H) o = true) : ofO (some H) o = ⟨#[]⟩ := if_neg h
theorem cmp_no {rs : List Int} {i : Int} {cnt : Nat} (h : ∀ (j : Nat) x, rs[j]? = some x → (j < cnt ↔ x < i)) (hn : i ∉ rs) : ∀ (j : Nat) x, rs[j]? = some x → (j < cnt ↔ x < i + 1) := by
  intro j x hx
  rw [h j x hx]
  have : x ≠ i := fun e => hn (e ▸ List.mem_of_getElem? hx)
  omega
theorem cmp_yes {rs : List Int} {i : Int} {cnt : Nat} (hp : rs.Pairwise (· < ·)) (h : ∀ (j : Nat) x, rs[j]? = some x → (j < cnt ↔ x < i)) (hi : i ∈ rs) : rs[cnt]? = some i ∧ ∀ (j : Nat) x, rs[j]? = some x → (j < cnt + 1 ↔ x < i + 1) := by
  have hlt : ∀ (a b : Nat) x y, rs[a]? = some x → rs[b]? = some y → a < b → x < y := by
    intro a b x y ha hb hab
    obtain ⟨a1, a2⟩ := List.getElem?_eq_some_iff.1 ha
    obtain ⟨b1, b2⟩ := List.getElem?_eq_some_iff.1 hb
    have := List.pairwise_iff_getElem.1 hp a b a1 b1 hab
    rwa [a2, b2] at this
  obtain ⟨j0, hj0⟩ := List.getElem?_of_mem hi
  have h1 := h j0 i hj0
  have h2 := (List.getElem?_eq_some_iff.1 hj0).1
  obtain ⟨y, hy⟩ : ∃ y, rs[cnt]? = some y := ⟨_, List.getElem?_eq_getElem (by omega)⟩
  have h3 := h cnt y hy
  have h4 : cnt = j0 := by
    rcases Nat.lt_or_ge cnt j0 with e | e
    · have := hlt cnt j0 y i hy hj0 e; omega
    · omega
  subst h4
  refine ⟨hj0, fun j x hx => ?_⟩
  have h5 := h j x hx
  rcases Nat.lt_trichotomy j cnt with e | e | e
  · omega
  · subst e
    rw [hj0] at hx
    cases hx
    omega
  · have := hlt cnt j i x hj0 hx e; omega
theorem cmp_end {rs : List Int} {i : Int} {cnt : Nat} (h : ∀ (j : Nat) x, rs[j]? = some x → (j < cnt ↔ x < i)) (hc : cnt ≤ rs.length) (ha : ∀ x ∈ rs, x < i) : cnt = rs.length := by
  rcases Nat.lt_or_ge cnt rs.length with e | e
  · obtain ⟨y, hy⟩ : ∃ y, rs[cnt]? = some y := ⟨_, List.getElem?_eq_getElem e⟩
    have := (h cnt y hy).2 (ha y (List.mem_of_getElem? hy))
    omega
  · omega
def ExCmp (W : World) (v : Value) (ub : Nat) (A : Option Addr) (m c : Nat) (ss : List Str) (H : Hp) (RA : Option Addr) (rs : List Int) (g N rm : Nat) (fl : List Bool) (i n : Value) (wr : World) : Prop :=
  ∃ k cnt : Nat, 1 ≤ k ∧ k ≤ N ∧ cnt ≤ rm ∧ i = .int .i64 k ∧ n = .int .i64 cnt ∧ Hid (∀ (j : Nat) x, rs[j]? = some x → (j < cnt ↔ x < (k : Int))) ∧ Hid (XR W NoF v ub A m c ss H H wr) ∧ Hid (IRz wr RA rs) ∧ Hid (Fl wr g N fl)
theorem At.ne {w w' : World} {x : Nat} {t : TypeId} {cs : Array Value} (h : At w x t cs) (hs : Sv (NE (fun i => i = x)) w w') : At w' x t cs := (hs.block x h.lt (fun e => e rfl)).trans h
theorem At.on {w w' : World} {x : Nat} {t : TypeId} {cs : Array Value} (h : At w x t cs) (hs : Below w.heap.size w w') : At w' x t cs := (hs.block x h.lt).trans h

set_option maxRecDepth 100000 in
set_option maxHeartbeats 4000000 in
theorem exact_true (A B C : Option Addr) (c c2 c3 m n q : Nat) (ss : List Str) (l : List Deed) (rt : List Int) (W : World) (hK : KeysIn W) (hR : SR W A ss) (hA : AR W B l) (hI : IRz W C rt) (hm : Hid (ss.length = m)) (hn : Hid (l.length = n)) (hq : Hid (rt.length = q)) (hl : m ≤ 281474976710656) (hmc : m ≤ c) (hl2 : n ≤ 281474976710656) (hl3 : q ≤ 281474976710656) :
    Calls Tryd.prog 3 #[.slice A m c, .slice B n c2, .slice C q c3] W fun e w' => e = .returned (.bool true) ∧ Below W.heap.size W w' := by
  have HK := Lib.hid hK
  have HR := Lib.hid hR
  have HA := Lib.hid hA
  have HI := Lib.hid hI
  obtain ⟨gb, hgb⟩ : ∃ gb, grB ss = gb := ⟨_, rfl⟩
  have HGB := Lib.hid hgb
  clear hK hR hA hI hgb
  go_enter Tryd.func3, Tryd.ntmps3
  go_wp2_with (first | (go_at_call 6; refine (awake_true _ HK.out).mono ?_; rintro e w1 ⟨rfl, hb1⟩; refine Hid.out ?_))
  have B1 := Lib.hid hb1
  have HR1 := Lib.hid (HR.out.below hb1 (Nat.le_refl _))
  clear hb1
  refine Lib.hid ?_
  cases gb with
  | true =>
    go_wp2_with (go_at_call 7; refine (great_any A c m ss true _ HR1.out hm hl HGB).mono ?_; rintro e w2 ⟨rfl, rfl⟩)
    go_ret
    exact ⟨rfl, B1.out⟩
  | false =>
    by_cases h80 : 80 < n
    · have h80' : (80 : Int) < (n : Int) := by omega
      go_wp2_with (go_at_call 7; refine (great_any A c m ss false _ HR1.out hm hl HGB).mono ?_; rintro e w2 ⟨rfl, rfl⟩)
      go_ret
      exact ⟨rfl, B1.out⟩
    · have h80' : ¬ (80 : Int) < (n : Int) := by omega
      by_cases h20 : 20 < q
      · have h20' : (20 : Int) < (q : Int) := by omega
        go_wp2_with (go_at_call 7; refine (great_any A c m ss false _ HR1.out hm hl HGB).mono ?_; rintro e w2 ⟨rfl, rfl⟩)
        go_ret
        exact ⟨rfl, B1.out⟩
      · have h20' : ¬ (20 : Int) < (q : Int) := by omega
        obtain ⟨H0, hH0⟩ : ∃ H0, newO ss = H0 := ⟨_, rfl⟩
        obtain ⟨cp, ce, hch⟩ : ∃ cp ce, chk ss = (cp, ce) := ⟨_, _, rfl⟩
        have HCH := Lib.hid hch
        have HK1 : Hid (KeysIn w1) := HK.out.below B1.out (Nat.le_refl _)
        have hNE := hH0
        unfold newO at hNE
        rw [hch] at hNE
        have HNE := Lib.hid hNE
        clear hNE hch
        go_wp2_with (first | (go_at_call 7; refine (great_any A c m ss false _ HR1.out hm hl HGB).mono ?_; rintro e w2 ⟨rfl, rfl⟩) | (go_at_call 8; refine (new_sp A c m ss H0 W _ B1.out.size HK1 HR1 hm hl hmc hH0).mono ?_; rintro e w2 ⟨v, rfl, hb2, hs2⟩; refine Hid.out ?_))
        have B2 := Lib.hid (B1.out.trans (hb2.mono B1.out.size))
        have S2 := Lib.hid hs2
        have HR2 := Lib.hid (HR.out.below B2.out (Nat.le_refl _))
        clear hb2 hs2 HR1 HK1 B1 hH0
        refine Lib.hid ?_
        by_cases hce : ce = 0
        · subst hce
          have hq0 : some (⟨ss, []⟩ : Hp) = H0 := by have := HNE.out; rwa [if_pos rfl] at this
          subst hq0
          go_wp2_with (first | (go_at_call 9; refine (refCheck_any A c m ss cp 0 _ HR2.out hm hl HCH).mono ?_; rintro e w3 ⟨rfl, hb3⟩; refine Hid.out ?_))
          have B3 := Lib.hid (B2.out.trans (hb3.mono B2.out.size))
          have X3 : Hid (XR W NoF v w3.heap.size A m c ss ⟨ss, []⟩ ⟨ss, []⟩ (w3.alloc (.cells #[.slice A m c, .slice none 0 0] 44))) := XR.new (S2.out.read hb3) B3.out hm.out ⟨_, HCH.out⟩ rfl
          have X3 : Hid (XR W NoF v w3.heap.size A m c ss ⟨ss, []⟩ ⟨ss, []⟩ (w3.alloc (.cells #[.slice A m c, .slice none 0 0] 44))) := X3
          clear hb3 HR2 B2 S2 HNE B3
          refine Lib.hid ?_
          go_wp2_with fail
          generalize w3.alloc (.cells #[.slice A m c, .slice none 0 0] 44) = w4 at *
          generalize w3.heap.size = ub at *
          go_loopw [7, 15] (fun v i wr => ExL W ub A m c ss n v i wr) (fun _ i _ => n - (intOf i).toNat)
          case atStart => exact ⟨⟨0, _, Nat.zero_le _, rfl, X3⟩⟩
          case round =>
            obtain ⟨⟨k, H, hk, rfl, HX⟩⟩ := hrel
            by_cases hlt : k < n
            · obtain ⟨a, ha⟩ : ∃ a, l[k]? = some a := ⟨_, List.getElem?_eq_getElem (by have := hn.out; omega)⟩
              obtain ⟨ab, ao, rfl, hag, hac⟩ := HA.out (by have := hn.out; omega)
              obtain ⟨x0, x1, x2, x3, x4⟩ := hac k a ha
              have c0 := (HX.out.bl.cell (p := ⟨ab, ao + k * 5, none⟩) hag).trans x0
              have c1 := (HX.out.bl.cell (p := ⟨ab, ao + k * 5 + 1, none⟩) hag).trans x1
              have c2 := (HX.out.bl.cell (p := ⟨ab, ao + k * 5 + 2, none⟩) hag).trans x2
              have c3 := (HX.out.bl.cell (p := ⟨ab, ao + k * 5 + 3, none⟩) hag).trans x3
              have c4 := (HX.out.bl.cell (p := ⟨ab, ao + k * 5 + 4, none⟩) hag).trans x4
              obtain ⟨K, nm, o, f, kn⟩ := a
              simp only at c0 c1 c2 c3 c4
              clear ha hac x0 x1 x2 x3 x4
              go_wp2_with (first | (refine wpList_alloc_row rfl 46 rfl z5 zero46 ?_; refine Hid.out ?_))
              have AZ := Lib.hid (at_new wr 46 z5)
              refine Lib.hid ?_
              go_wp2_with (first | (refine wpList_store_row rfl 46 _ _ rfl wr.heap.size #[.int .i64 K, .string nm, .int .i64 o, .int .i64 f, .int .i64 kn] rfl rfl 46 z5 AZ.out info46 rfl (by simp [Value.oneCell']) ?_; refine Hid.out ?_))
              have A6 := Lib.hid (AZ.out.setSame (cs' := #[.int .i64 K, .string nm, .int .i64 o, .int .i64 f, .int .i64 kn]))
              have B6 := Lib.hid (below_setRow (g := wr.heap.size) ((Below.refl wr.heap.size wr).alloc (Nat.le_refl _) (.cells z5 46)) (Nat.le_refl _) #[.int .i64 K, .string nm, .int .i64 o, .int .i64 f, .int .i64 kn])
              have X6 := Lib.hid (HX.out.keep B6.out (Nat.le_refl _) A6.out.lt)
              clear c0 c1 c2 c3 c4 AZ B6
              generalize (wr.alloc (.cells z5 46)).setRow wr.heap.size #[.int .i64 K, .string nm, .int .i64 o, .int .i64 f, .int .i64 kn] = w6 at *
              generalize wr.heap.size = xb at *
              have y0 : w6.cell? ⟨xb, 0, none⟩ = some (.int .i64 K) := A6.out.cell 0
              have y1 : w6.cell? ⟨xb, 1, none⟩ = some (.string nm) := A6.out.cell 1
              have y2 : w6.cell? ⟨xb, 2, none⟩ = some (.int .i64 o) := A6.out.cell 2
              have y3 : w6.cell? ⟨xb, 3, none⟩ = some (.int .i64 f) := A6.out.cell 3
              have y4 : w6.cell? ⟨xb, 4, none⟩ = some (.int .i64 kn) := A6.out.cell 4
              refine Lib.hid ?_
              go_upto_block 2 with fail
              go_cut [7] (fun v wc => ∃ H' : Hp, Hid (XR W (fun i => i = xb) v ub A m c ss H' H' wc) ∧ Hid (At wc xb 46 #[.int .i64 K, .string nm, .int .i64 o, .int .i64 f, .int .i64 kn]))
              case first =>
                by_cases hk12 : K = 1 ∨ K = 2
                · obtain ⟨H', ma, mr, hmk⟩ := make_some' H nm
                  have HMK := Lib.hid hmk
                  clear hmk
                  rcases hk12 with rfl | rfl
                  all_goals
                    go_wp2_with (first | (go_at_call 10; refine (X6.out.make_p nm H' ma mr HMK).mono ?_; rintro e w7 ⟨rfl, hx7, hs7⟩; have X7 := Lib.hid hx7; have A7 := Lib.hid (A6.out.ne hs7); have y71 : w7.cell? ⟨xb, 1, none⟩ = some (.string nm) := A7.out.cell 1; clear hx7 hs7) | (go_at_call 18; refine (X7.out.make_u HR nm H' ma mr HMK).mono ?_; rintro e w8 ⟨rfl, hx8, hs8⟩; have XN := Lib.hid hx8; have AN := Lib.hid (A7.out.ne hs8); clear hx8 hs8; refine Hid.out ?_))
                    refine Lib.hid ?_
                    go_wp2_with fail
                    go_meet
                    case rel => exact ⟨_, XN, AN⟩
                · by_cases hk345 : K = 3 ∨ K = 4 ∨ K = 5
                  · obtain ⟨H', hse⟩ := set_some H o f kn
                    have HSE := Lib.hid hse
                    obtain ⟨er, her⟩ : ∃ er, askO (some H) o f = er := ⟨_, rfl⟩
                    have HER := Lib.hid her
                    clear hse her hk12
                    rcases hk345 with rfl | rfl | rfl
                    all_goals
                      go_wp2_with fail
                      have XD6 := Lib.hid (X6.out.read ((Below.refl w6.heap.size w6).drew))
                      have AD6 : Hid (At w6.drew xb 46 _) := A6.out
                      go_region_held3 (fun w' => w'.cell? ⟨xb, 2, none⟩ = some (.int .i64 o) ∧ w'.cell? ⟨xb, 3, none⟩ = some (.int .i64 f) ∧ w'.cell? ⟨xb, 4, none⟩ = some (.int .i64 kn)) (first | exact ⟨y2, y3, y4⟩ | exact ⟨q2, q3, q4⟩) (first
                        | (go_at_call 12; refine (XU.out.set_p o f kn er HER H' HSE).mono ?_; rintro e wn ⟨rfl, hxn, hsn⟩; have XN := Lib.hid hxn; have AN := Lib.hid (AU.out.ne hsn); have q2 : wn.cell? ⟨xb, 2, none⟩ = some (.int .i64 o) := AN.out.cell 2; have q3 : wn.cell? ⟨xb, 3, none⟩ = some (.int .i64 f) := AN.out.cell 3; have q4 : wn.cell? ⟨xb, 4, none⟩ = some (.int .i64 kn) := AN.out.cell 4; clear hxn hsn)
                        | (go_at_call 19; refine (XP.out.set_u o f kn er HER H' HSE).mono ?_; rintro e wn ⟨rfl, hxn, hsn⟩; have XN := Lib.hid hxn; have AN := Lib.hid (AP.out.ne hsn); have q2 : wn.cell? ⟨xb, 2, none⟩ = some (.int .i64 o) := AN.out.cell 2; have q3 : wn.cell? ⟨xb, 3, none⟩ = some (.int .i64 f) := AN.out.cell 3; have q4 : wn.cell? ⟨xb, 4, none⟩ = some (.int .i64 kn) := AN.out.cell 4; clear hxn hsn)
                        | (go_at_call 12; refine (XD6.out.set_p o f kn er HER H' HSE).mono ?_; rintro e wp ⟨rfl, hxp, hsp⟩; have XP := Lib.hid hxp; have AP := Lib.hid (AD6.out.ne hsp); have q2 : wp.cell? ⟨xb, 2, none⟩ = some (.int .i64 o) := AP.out.cell 2; have q3 : wp.cell? ⟨xb, 3, none⟩ = some (.int .i64 f) := AP.out.cell 3; have q4 : wp.cell? ⟨xb, 4, none⟩ = some (.int .i64 kn) := AP.out.cell 4; clear hxp hsp)
                        | (go_at_call 19; refine (XD6.out.set_u o f kn er HER H' HSE).mono ?_; rintro e wu ⟨rfl, hxp, hsp⟩; have XU := Lib.hid hxp; have AU := Lib.hid (AD6.out.ne hsp); have q2 : wu.cell? ⟨xb, 2, none⟩ = some (.int .i64 o) := AU.out.cell 2; have q3 : wu.cell? ⟨xb, 3, none⟩ = some (.int .i64 f) := AU.out.cell 3; have q4 : wu.cell? ⟨xb, 4, none⟩ = some (.int .i64 kn) := AU.out.cell 4; clear hxp hsp))
                      all_goals
                        go_wp2_with fail
                        go_meet
                        case rel => exact ⟨_, XN, AN⟩
                  · have f3 : (K == 3) = false := by simp; omega
                    have f4 : (K == 4) = false := by simp; omega
                    have f5 : (K == 5) = false := by simp; omega
                    have f1 : (K == 1) = false := by simp; omega
                    have f2 : (K == 2) = false := by simp; omega
                    clear hk12
                    by_cases hk6 : K = 6
                    · subst hk6
                      clear hk345 f1 f2 f3 f4 f5
                      go_wp2_with (first | (go_at_call 17; refine X6.out.clone_p.mono ?_; rintro e w7 ⟨v2, rfl, hx7, hb7, _⟩; refine Hid.out ?_))
                      have XN := Lib.hid hx7
                      have AN := Lib.hid (A6.out.on hb7)
                      clear hx7 hb7 y0 y1 y2 y3 y4
                      refine Lib.hid ?_
                      go_wp2_with fail
                      go_meet
                      case rel => exact ⟨_, XN, AN⟩
                    · by_cases hk7 : K = 7
                      · subst hk7
                        clear hk345 f1 f2 f3 f4 f5 hk6
                        obtain ⟨kw, hkw⟩ : ∃ kw, IntKind.i64.wrap (kn + 1) = kw := ⟨_, rfl⟩
                        obtain ⟨er, her⟩ : ∃ er, askO (some H) o f = er := ⟨_, rfl⟩
                        have HER := Lib.hid her
                        go_wp2_with (first | (go_at_call 17; refine X6.out.clone_p.mono ?_; rintro e w7 ⟨v2, rfl, hx7, hb7, hp7⟩; refine Hid.out ?_))
                        have B7 := Lib.hid hb7
                        have A7 := Lib.hid (A6.out.on hb7)
                        have P7 := Lib.hid hp7
                        have t2 : w7.cell? ⟨xb, 2, none⟩ = some (.int .i64 o) := A7.out.cell 2
                        have t3 : w7.cell? ⟨xb, 3, none⟩ = some (.int .i64 f) := A7.out.cell 3
                        have t4 : w7.cell? ⟨xb, 4, none⟩ = some (.int .i64 kn) := A7.out.cell 4
                        clear hx7 hb7 hp7 y0 y1 y2 y3 y4
                        refine Lib.hid ?_
                        go_wp2_with (first | (go_at_call 12; refine (set_any _ v2 (some H) o f kw er _ P7.out HER).mono ?_; rintro e w8 ⟨rfl, hs8, hp8⟩; refine Hid.out ?_))
                        have B8 := Lib.hid (B7.out.trans (hs8.below (B := w6.heap.size) (fun i hi => hi.1) B7.out.size))
                        have A8 := Lib.hid (A6.out.on B8.out)
                        have P8 := Lib.hid hp8
                        have t1 : w8.cell? ⟨xb, 1, none⟩ = some (.string nm) := A8.out.cell 1
                        clear hs8 hp8 t2 t3 t4
                        refine Lib.hid ?_
                        obtain ⟨⟨H9, ma, mr⟩, hmk⟩ : ∃ y, makeO (setO (some H) o f kw) nm = y := ⟨_, rfl⟩
                        have HMK := Lib.hid hmk
                        clear hmk hkw her
                        go_wp2_with (first | (go_at_call 10; refine (make_any _ v2 _ nm H9 ma mr _ P8.out HMK).mono ?_; rintro e w9 ⟨rfl, hs9, _⟩; refine Hid.out ?_))
                        have B9 := Lib.hid (B8.out.trans (hs9.below (B := w6.heap.size) (fun i hi => hi.1) B8.out.size))
                        have AN := Lib.hid (A6.out.on B9.out)
                        have XN := Lib.hid (X6.out.read B9.out)
                        clear hs9 t1 B7 B8 P7 P8 HMK
                        refine Lib.hid ?_
                        go_wp2_with fail
                        go_meet
                        case rel => exact ⟨_, XN, AN⟩
                      · have f6 : (K == 6) = false := by simp; omega
                        have f7 : (K == 7) = false := by simp; omega
                        clear hk345 hk6 hk7
                        have XN := X6
                        have AN := A6
                        clear y1 y2 y3 y4
                        go_wp2_with fail
                        go_meet
                        case rel => exact ⟨_, XN, AN⟩
              case rest =>
                obtain ⟨HN, XN, AN⟩ := hcut
                clear y0 y1 y2 y3 y4 X6 A6
                have m2 : wc.cell? ⟨xb, 2, none⟩ = some (.int .i64 o) := AN.out.cell 2
                have m3 : wc.cell? ⟨xb, 3, none⟩ = some (.int .i64 f) := AN.out.cell 3
                obtain ⟨gr, hgr⟩ : ∃ gr, askO (some HN) o f = gr := ⟨_, rfl⟩
                obtain ⟨gv, hgv⟩ : ∃ gv, getO (some HN) o f = gv := ⟨_, rfl⟩
                have HGR := Lib.hid hgr
                have HGV := Lib.hid hgv
                clear hgr hgv
                go_wp2_with (first | (go_at_call 11; refine (XN.out.get_p o f gv gr HGR HGV).mono ?_; rintro e wa ⟨rfl, hxa, hba⟩; have XA := Lib.hid hxa; have AA := Lib.hid (AN.out.on hba); have z2 : wa.cell? ⟨xb, 2, none⟩ = some (.int .i64 o) := AA.out.cell 2; have z3 : wa.cell? ⟨xb, 3, none⟩ = some (.int .i64 f) := AA.out.cell 3; clear hxa hba) | (go_at_call 20; refine (XA.out.get_u o f gv gr HGR HGV).mono ?_; rintro e wb ⟨rfl, rfl⟩; refine Hid.out ?_))
                obtain ⟨UF, lv, zs, hum⟩ := XA.out.u
                obtain ⟨LB, lk, rfl, _⟩ := hum.lform
                have du1 := hum.c1
                obtain ⟨ln, hln⟩ : ∃ ln, HN.obs.length = ln := ⟨_, rfl⟩
                rw [hln] at du1
                have HLN := Lib.hid hln
                have XD := Lib.hid (XA.out.read ((Below.refl wa.heap.size wa).drew))
                clear hum hln z2 z3 m2 m3
                refine Lib.hid ?_
                go_wp2_with fail
                go_region_held3 (fun w' => w'.cell? ⟨ub, 1, none⟩ = some (.slice LB ln lk)) (exact du1) (first | (go_at_call 14; refine (XD.out.len_p).mono ?_; rintro e w9 ⟨rfl, rfl⟩; rw [HLN.out]))
                all_goals
                  go_wp2_with fail
                  go_roundw
                  case rel => exact ⟨⟨k + 1, HN, by omega, by go_num, XD.out.drop⟩⟩
                  case measure => simp [intOf]; omega
            · obtain rfl : k = n := by omega
              obtain ⟨hno, _⟩ := HX.out.le
              obtain ⟨UF, lv, zs, hum⟩ := HX.out.u
              obtain ⟨LB, lk, rfl, hlk⟩ := hum.lform
              have c1 := hum.c1
              obtain ⟨hn, hhn⟩ : ∃ hn, H.obs.length = hn := ⟨_, rfl⟩
              rw [hhn] at c1 hno
              have HHN := Lib.hid hhn
              clear hum hhn hlk
              go_wp2_with fail
              go_loopw [26] (fun i wr => ExScan W u7 ub A m c ss H hn i wr) (fun i _ => hn - (intOf i).toNat)
              case atStart => exact ⟨0, Nat.zero_le _, rfl, HX⟩
              case round =>
                obtain ⟨i, hi, rfl, HXi⟩ := hrel
                obtain ⟨UF, lv, zs, hum⟩ := HXi.out.u
                obtain ⟨LB, lk, rfl, hlk⟩ := hum.lform
                have c1 := hum.c1
                rw [HHN.out] at c1
                by_cases hlt : i < hn
                · have hio : i < H.obs.length := by have := HHN.out; omega
                  obtain ⟨lg, kk, hlv, hkk, hlg⟩ := hum.lform' hio
                  injection hlv with hv1 hv2 hv3
                  subst hv1 hv3
                  obtain ⟨fg, r0, r1, r2, rz, rg⟩ := hum.row hio
                  obtain ⟨sh, hsh⟩ : ∃ sh, (H.ob i).sh = sh := ⟨_, rfl⟩
                  have hshl : sh < H.ss.length := by
                    have hob : H.obs[i]? = some (H.ob i) := by rw [← hum.hz, List.getElem?_map, rz]; rfl
                    have := hum.ok.sh _ (List.mem_of_getElem? hob)
                    rw [hsh] at this
                    exact this
                  have hss : H.ss = ss := HXi.out.1
                  obtain ⟨st, hst⟩ : ∃ st, ss[sh]? = some st := ⟨_, List.getElem?_eq_getElem (by rw [← hss]; exact hshl)⟩
                  have hSt : H.st i = st := by unfold Hp.st; rw [hsh, List.getD_eq_getElem?_getD, hss, hst]; rfl
                  obtain ⟨sb, so, rfl, hsb, hsc⟩ := HR.out (by rw [hss] at hshl; omega)
                  obtain ⟨FA, fc, x0, x1, x2, x3, x4⟩ := hsc sh st hst
                  have d0 := (HXi.out.bl.cell (p := ⟨sb, so + sh * 2, none⟩) hsb).trans x0
                  have hof : Hid (ofO (some H) ((i : Int) + 1) = st.name) := by
                    show (if hasO (some H) ((i : Int) + 1) = true then (H.st ((i : Int) + 1 - 1).toNat).name else _) = _
                    rw [if_pos (num_has hio), show ((i : Int) + 1 - 1).toNat = i by omega, hSt]
                  obtain ⟨fm, hfm⟩ : ∃ fm, H.wid i = fm := ⟨_, rfl⟩
                  have hw8 : fm ≤ 8 := by
                    rw [← hfm]
                    unfold Hp.wid
                    rw [hSt]
                    exact hum.ok.wd st (by rw [hss]; exact List.mem_of_getElem? hst)
                  have hsm : (sh : Int) < (m : Int) := by have := hm.out; rw [hss] at hshl; omega
                  have hs0 : (0 : Int) ≤ (sh : Int) := by omega
                  have hi0 : (0 : Int) ≤ (i : Int) := by omega
                  have hi1 : (i : Int) < (hn : Int) := by omega
                  have hw : IntKind.i64.wrap ((i : Int) + 1) = (i : Int) + 1 := IntWalk.i64_in _ (by omega)
                  rw [hsh] at r0
                  rw [hfm] at r1
                  have HFM := Lib.hid hfm
                  have HIO := Lib.hid hio
                  have HXd := Lib.hid (HXi.out.read ((Below.refl wr.heap.size wr).drew))
                  clear r2 rz rg hshl hss hst hSt hsc x0 x1 x2 x3 x4 hsh hfm hum hkk hv2 hio
                  obtain ⟨sn, sf⟩ := st
                  simp only at d0 hof
                  go_wp2_with fail
                  go_region_held3 (fun w' => w'.cell? ⟨ub, 1, none⟩ = some (.slice (some ⟨lg, 0, none⟩) hn lk) ∧ w'.cell? ⟨lg, i * 2, none⟩ = some (.int .i64 sh) ∧ w'.cell? ⟨sb, so + sh * 2, none⟩ = some (.string sn)) (first | exact ⟨c1, r0, d0⟩ | exact ⟨e1, e2, e3⟩) (first | (go_at_call 13; refine (HXd.out.of_p _ sn hof).mono ?_; rintro e w9 ⟨rfl, hx9, hb9⟩; have X9 := Lib.hid hx9; have e1 := (hb9.cell (p := ⟨ub, 1, none⟩) (World.block_lt_of_cell? _ _ c1)).trans c1; have e2 := (hb9.cell (p := ⟨lg, i * 2, none⟩) (World.block_lt_of_cell? _ _ r0)).trans r0; have e3 := (hb9.cell (p := ⟨sb, so + sh * 2, none⟩) (World.block_lt_of_cell? _ _ d0)).trans d0; have r9 := (hb9.cell (p := ⟨lg, i * 2 + 1, none⟩) (World.block_lt_of_cell? _ _ r1)).trans r1; clear hx9 hb9))
                  all_goals
                    go_wp2_with fail
                    go_loopw [27] (fun j wr => ExScan W u7 ub (some ⟨sb, so, none⟩) m c ss H fm j wr) (fun j _ => fm - (intOf j).toNat)
                    case atStart => exact ⟨0, Nat.zero_le _, rfl, X9⟩
                    case round =>
                      obtain ⟨p, hp, rfl, HXp⟩ := hrel
                      obtain ⟨UF2, lv2, zs2, hum2⟩ := HXp.out.u
                      obtain ⟨lg2, kk2, rfl, hkk2, hlg2⟩ := hum2.lform' HIO.out
                      obtain ⟨fg2, s0, s1, s2, _, hfg2⟩ := hum2.row HIO.out
                      have d1 := hum2.c1
                      rw [HHN.out] at d1
                      rw [HFM.out] at s1
                      by_cases hlt2 : p < fm
                      · have s3 := s2 p (by have := HFM.out; omega)
                        have HAK : Hid (askO (some H) ((i : Int) + 1) (p : Int) = 0) := ask_in HIO.out (by rw [HFM.out]; exact hlt2)
                        have hgp := get_in (H := H) (k := p) HIO.out (by rw [HFM.out]; exact hlt2)
                        obtain ⟨gx, hgx⟩ : ∃ gx, (H.ob i).fs.getD p 0 = gx := ⟨_, rfl⟩
                        rw [hgx] at s3 hgp
                        have HGP := Lib.hid hgp
                        have hp3 : (p : Int) < (fm : Int) := by omega
                        have hp4 : (0 : Int) ≤ (p : Int) := by omega
                        clear hgp hgx s2 s0 hum2 hkk2
                        go_wp2_with (first | (go_at_call 11; refine (HXp.out.get_p _ _ gx 0 HAK HGP).mono ?_; rintro e wg ⟨rfl, hxg, hbg⟩; refine Hid.out ?_))
                        have XG := Lib.hid hxg
                        have t1 := (hbg.cell (p := ⟨ub, 1, none⟩) (World.block_lt_of_cell? _ _ d1)).trans d1
                        have t2 := (hbg.cell (p := ⟨lg2, i * 2 + 1, none⟩) (World.block_lt_of_cell? _ _ s1)).trans s1
                        have t3 := (hbg.cell (p := ⟨fg2, p, none⟩) (World.block_lt_of_cell? _ _ s3)).trans s3
                        clear hxg hbg d1 s1 s3
                        refine Lib.hid ?_
                        go_wp2_with fail
                        go_roundw
                        case rel => exact ⟨p + 1, by omega, by go_num, XG⟩
                        case measure => simp [intOf]; omega
                      · obtain rfl : fm = p := by omega
                        clear s0 s2 hum2 hkk2
                        go_wp2_with fail
                        go_roundw
                        case rel => exact ⟨i + 1, by omega, by go_num, HXp⟩
                        case measure => simp [intOf]; omega
                · obtain rfl : hn = i := by omega
                  clear hlk
                  go_wp2_with (first | (go_at_call 16; refine (HXi.out.reach_p q c3 rt C HI hq hl3).mono ?_; rintro e wA ⟨RA, rc, rs, hrc, hrl, rfl, hir, hbA, hra⟩; refine Hid.out ?_))
                  have XA := Lib.hid (HXi.out.read hbA)
                  obtain ⟨rm, hrm⟩ : ∃ rm, rs.length = rm := ⟨_, rfl⟩
                  rw [hrm]
                  have HRM := Lib.hid hrm
                  have HRC := Lib.hid hrc
                  have HIR := Lib.hid hir
                  have hrm8 : rm ≤ 131072 := by
                    have e : lenO (some H) = hn := HHN.out
                    omega
                  obtain ⟨N, hN⟩ : ∃ N, hn + 1 = N := ⟨_, rfl⟩
                  have HNN : Hid (H.obs.length + 1 = N) := by show _ = _; rw [HHN.out]; exact hN
                  have HN := Lib.hid hN
                  clear hrc hrl hir hra hbA hrm hN hum c1
                  refine Lib.hid ?_
                  go_wp2_with (first | (go_at_call 21; refine (XA.out.reach_u HR q c3 N rt C HI hq (by omega) HNN).mono ?_; rintro e wB ⟨fl, rfl, hfl, hfb, hbB⟩; refine Hid.out ?_))
                  have XB := Lib.hid (XA.out.read hbB)
                  have IB := Lib.hid (HIR.out.below hbB (Nat.le_refl _))
                  have FB := Lib.hid hfl
                  have HFB := Lib.hid hfb
                  generalize wA.heap.size = g at *
                  clear hfl hfb hbB HIR
                  have hN1 : 1 ≤ N := by have := HN.out; omega
                  have hN2 : N ≤ 131073 := by have := HN.out; omega
                  have C0 : Hid (∀ (j : Nat) x, rs[j]? = some x → (j < 0 ↔ x < ((1 : Nat) : Int))) := by
                    intro j x hx
                    have h1 := ((HRC.out.mem x).1 (List.mem_of_getElem? hx)).has
                    have h2 := (has_lt h1).1
                    omega
                  refine Lib.hid ?_
                  go_wp2_with fail
                  go_loopw [33, 32] (fun i n wr => ExCmp W u7 ub A m c ss H RA rs g N rm fl i n wr) (fun i _ _ => N - (intOf i).toNat)
                  case atStart => exact ⟨1, 0, Nat.le_refl _, hN1, Nat.zero_le _, rfl, rfl, C0, XB, IB, FB⟩
                  case round =>
                    obtain ⟨j, cnt, hj1, hj2, hcnt, rfl, rfl, HC, HXj, HIj, HFj⟩ := hrel
                    by_cases hlt2 : j < N
                    · obtain ⟨b, hb⟩ : ∃ b, fl[j]? = some b := ⟨_, List.getElem?_eq_getElem (by have := HFj.out.1; omega)⟩
                      have d2 := HFj.out.cell hb
                      have hj3 : (j : Int) < (N : Int) := by omega
                      have hj4 : (0 : Int) ≤ (j : Int) := by omega
                      have hmb : (j : Int) ∈ rs ↔ b = true := by
                        rw [HRC.out.mem, ← HFB.out, fb_iff, Int.toNat_natCast, hb]
                        constructor
                        · intro h; exact Option.some.inj h.2
                        · intro h; exact ⟨by omega, by rw [h]⟩
                      have HMB := Lib.hid hmb
                      clear hb hmb
                      cases b with
                      | false =>
                        have HC2 := Lib.hid (cmp_no HC.out (fun h => by have := HMB.out.1 h; cases this))
                        go_wp2_with fail
                        go_roundw
                        case rel => exact ⟨j + 1, cnt, by omega, by omega, hcnt, by go_num, rfl, HC2, HXj, HIj, HFj⟩
                        case measure => simp [intOf]; omega
                      | true =>
                        obtain ⟨hat, hc2⟩ := cmp_yes HRC.out.lt HC.out (HMB.out.2 rfl)
                        have hcl : cnt < rm := by have := (List.getElem?_eq_some_iff.1 hat).1; have := HRM.out; omega
                        obtain ⟨rb, ro, rfl, hrb, hrc⟩ := HIj.out (by have := HRM.out; omega)
                        have d3 := hrc cnt _ hat
                        have HC2 := Lib.hid hc2
                        have hc3 : ¬ (rm : Int) ≤ (cnt : Int) := by omega
                        have hc4 : (cnt : Int) < (rm : Int) := by omega
                        have hc5 : (0 : Int) ≤ (cnt : Int) := by omega
                        clear hat hc2 hrc
                        go_wp2_with fail
                        go_roundw
                        case rel => exact ⟨j + 1, cnt + 1, by omega, by omega, by omega, by go_num, by go_num, HC2, HXj, HIj, HFj⟩
                        case measure => simp [intOf]; omega
                    · obtain rfl : N = j := by omega
                      have hce : cnt = rm := by
                        rw [← HRM.out]
                        refine cmp_end HC.out (by rw [HRM.out]; exact hcnt) (fun x hx => ?_)
                        have h1 := (has_lt ((HRC.out.mem x).1 hx).has)
                        have h2 : lenO (some H) = hn := HHN.out
                        have h3 := HN.out
                        omega
                      have HO0 : Hid (ofO (some H) 0 = ⟨#[]⟩) := of_no (fun h => by have := (has_lt h).1; omega)
                      have HO1 : Hid (ofO (some H) (N : Int) = ⟨#[]⟩) := of_no (fun h => by
                        have h1 := has_lt h
                        have h2 : lenO (some H) = hn := HHN.out
                        have h3 := HN.out
                        omega)
                      have hwN : IntKind.i64.wrap ((hn : Int) + 1) = (N : Int) := by rw [show (hn : Int) + 1 = (N : Int) by have := HN.out; omega]; exact IntWalk.i64_in _ (by omega)
                      subst hce
                      go_wp2_with (first | (go_at_call 13; refine (HXj.out.of_p 0 ⟨#[]⟩ HO0).mono ?_; rintro e wC ⟨rfl, hxC, hbC⟩; refine Hid.out ?_))
                      obtain ⟨UF3, lv3, zs3, hum3⟩ := hxC.u
                      obtain ⟨LB3, lk3, rfl, _⟩ := hum3.lform
                      have d9 := hum3.c1
                      rw [HHN.out] at d9
                      have XC := Lib.hid hxC
                      clear hum3 hxC hbC
                      refine Lib.hid ?_
                      go_wp2_with (first | (go_at_call 13; refine (XC.out.of_p (N : Int) ⟨#[]⟩ HO1).mono ?_; rintro e wD ⟨rfl, hxD, hbD⟩; refine Hid.out ?_))
                      have BD := Lib.hid hxD.bl
                      clear hxD hbD
                      refine Lib.hid ?_
                      go_wp2_with fail
                      go_ret
                      exact ⟨rfl, BD.out⟩
        · have hq0 : none = H0 := by have := HNE.out; rwa [if_neg hce] at this
          subst hq0
          have n1 : ((ce : Int) != 0) = true := by simp; omega
          obtain rfl : v = .pointer none := by obtain ⟨P, _, h⟩ := S2.out; exact h
          clear S2 HNE
          have hnil : PM w2 NoF (.pointer none) none := rfl
          go_wp2_with (first | (go_at_call 9; refine (refCheck_any A c m ss cp ce _ HR2.out hm hl HCH).mono ?_; rintro e w3 ⟨rfl, hb3⟩; refine Hid.out ?_))
          have B3 := Lib.hid (B2.out.trans (hb3.mono B2.out.size))
          clear hb3 hnil HR2 B2
          refine Lib.hid ?_
          go_wp2_with (first
            | (go_at_call 10; refine (make_any NoF _ none _ none 0 13 _ rfl rfl).mono ?_; rintro e w4 ⟨rfl, hs4, _⟩; have B4 := Lib.hid (B3.out.trans (hs4.below (B := W.heap.size) (fun _ h => h.elim) B3.out.size)); clear hs4)
            | (go_at_call 11; refine (get_any NoF _ none 0 0 0 13 _ rfl rfl rfl).mono ?_; rintro e w5 ⟨rfl, hb5⟩; have B5 := Lib.hid (B4.out.trans (hb5.mono B4.out.size)); clear hb5)
            | (go_at_call 12; refine (set_any NoF _ none 0 0 0 13 _ rfl rfl).mono ?_; rintro e w6 ⟨rfl, hs6, _⟩; have B6 := Lib.hid (B5.out.trans (hs6.below (B := W.heap.size) (fun _ h => h.elim) B5.out.size)); clear hs6)
            | (go_at_call 13; refine (of_any NoF _ none 1 ⟨#[]⟩ _ rfl rfl).mono ?_; rintro e w7 ⟨rfl, hb7⟩; have B7 := Lib.hid (B6.out.trans (hb7.mono B6.out.size)); clear hb7)
            | (go_at_call 14; refine (len_any NoF _ none _ rfl).mono ?_; rintro e w8 ⟨rfl, rfl⟩; rw [show ((lenO none : Nat) : Int) = 0 from rfl])
            | (go_at_call 15; refine (near_any NoF _ none 1 _ rfl).mono ?_; rintro e w9 ⟨NA, nc, rfl, _, hb9, _⟩; rw [show (nearO none 1).length = 0 from rfl]; have B9 := Lib.hid (B7.out.trans (hb9.mono B7.out.size)); clear hb9; refine Hid.out ?_))
          refine Lib.hid ?_
          go_wp2_with (go_at_call 16; refine Hid.out ?_)
          have hbx := Lib.hid (B9.out.alloc B9.out.size (.cells #[.int .i64 1] 3))
          have hix : Hid (IRz (w9.alloc (.cells #[.int .i64 1] 3)) (some ⟨w9.heap.size, 0, none⟩) [1]) := by
            refine fun _ => ⟨w9.heap.size, 0, rfl, by simp, fun k n hk => ?_⟩
            rcases k with _ | k
            · obtain rfl := (Option.some.inj hk).symm
              exact cell_new w9 #[.int .i64 1] 3 0
            · simp at hk
          generalize w9.alloc (.cells #[.int .i64 1] 3) = wx at *
          refine Lib.hid ?_
          refine (reach_all NoF _ none 0 1 1 [1] _ _ rfl hix.out rfl (by omega) rfl (by omega)).mono ?_
          rintro e wy ⟨RA, rc, ls, _, hls, rfl, _, hby, _⟩
          obtain rfl : ls = [] := List.eq_nil_of_length_eq_zero (Nat.le_zero.1 hls)
          have BY := Lib.hid (hbx.out.trans (hby.mono hbx.out.size))
          clear hby hix hbx hls
          rw [show ([] : List Int).length = 0 from rfl]
          go_wp2_with (go_at_call 17; refine Hid.out ?_)
          refine Lib.hid ?_
          refine (clone_any NoF _ none _ rfl).mono ?_
          rintro e wz ⟨v2, rfl, hbz, hpz⟩
          obtain rfl : v2 = .pointer none := hpz
          have BZ := Lib.hid (BY.out.trans (hbz.mono BY.out.size))
          clear hbz
          go_wp2_with fail
          go_ret
          exact ⟨rfl, BZ.out⟩

end Go.Proofs.YtjgmhkplgenieaaDoor
