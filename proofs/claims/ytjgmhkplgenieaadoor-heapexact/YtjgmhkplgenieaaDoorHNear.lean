/-
  CONTRACTS: Near of package heap, at whatever heap, nil too.
-/
import Derived.Test.YtjgmhkplgenieaaDoorHGet
import Derived.Test.YtjgmhkplgenieaaDoorHSort
import Derived.Test.YtjgmhkplgenieaaDoorArr
namespace Go.Proofs.YtjgmhkplgenieaaDoor
open Go.RowKit

def fsd (H : Hp) (i k : Nat) : Int := (H.ob i).fs.getD k 0
def nrB (H : Hp) (i k : Nat) : Bool := linkB (H.st i).fields k && hasO (some H) (fsd H i k)
def nrK (H : Hp) (i : Nat) : Nat → List Int
  | 0 => []
  | k + 1 => nrK H i k ++ if nrB H i k then [fsd H i k] else []
def nrL (H : Hp) (i : Nat) : List Int := Go.Lib.compact ((nrK H i 8).mergeSort fun x y => decide (x ≤ y))
def nearO (H : Option Hp) (o : Int) : List Int := match H with
  | none => []
  | some H => if hasO (some H) o = true then nrL H (o - 1).toNat else []
theorem nrK_mem {H : Hp} {i : Nat} {x : Int} : ∀ {n : Nat}, x ∈ nrK H i n ↔ ∃ k, k < n ∧ nrB H i k = true ∧ fsd H i k = x := by
  intro n
  induction n with
  | zero => simp [nrK]
  | succ n ih =>
    rw [nrK, List.mem_append, ih]
    constructor
    · rintro (⟨k, h1, h2⟩ | h)
      · exact ⟨k, by omega, h2⟩
      · split at h
        · rename_i hb
          obtain rfl := List.mem_singleton.1 h
          exact ⟨n, by omega, hb, rfl⟩
        · cases h
    · rintro ⟨k, h1, h2, h3⟩
      rcases Nat.lt_or_ge k n with h | h
      · exact .inl ⟨k, h, h2, h3⟩
      · obtain rfl : k = n := by omega
        right; rw [if_pos h2]; simp [h3]
theorem nrK_len (H : Hp) (i : Nat) : ∀ n, (nrK H i n).length ≤ n := by
  intro n
  induction n with
  | zero => simp [nrK]
  | succ n ih => rw [nrK, List.length_append]; split <;> simp <;> omega
theorem nrL_mem {H : Hp} {i : Nat} {x : Int} : x ∈ nrL H i ↔ ∃ k, k < 8 ∧ nrB H i k = true ∧ fsd H i k = x := by
  unfold nrL; rw [sorted_mem, nrK_mem]
theorem nrL_len (H : Hp) (i : Nat) : (nrL H i).length ≤ 8 := by
  have h1 := compact_len ((nrK H i 8).mergeSort fun x y => decide (x ≤ y))
  have h2 := nrK_len H i 8
  rw [List.length_mergeSort] at h1
  unfold nrL; omega
theorem near_has {H : Option Hp} {o x : Int} (h : x ∈ nearO H o) : hasO H x = true := by
  cases H with
  | none => cases h
  | some H =>
    replace h : x ∈ (if hasO (some H) o = true then nrL H (o - 1).toNat else []) := h
    split at h
    · obtain ⟨k, _, h2, rfl⟩ := nrL_mem.1 h
      unfold nrB at h2
      rw [Bool.and_eq_true] at h2
      exact h2.2
    · cases h

def lkA (s : Str) : Array Value := #[.bool (linkB s.fields 0), .bool (linkB s.fields 1), .bool (linkB s.fields 2), .bool (linkB s.fields 3), .bool (linkB s.fields 4), .bool (linkB s.fields 5), .bool (linkB s.fields 6), .bool (linkB s.fields 7)]
theorem lk_at (s : Str) (k : Nat) (hk : k < 8) : (lkA s)[k]? = some (.bool (linkB s.fields k)) := by
  unfold lkA
  match k, hk with
  | 0, _ => rfl
  | 1, _ => rfl
  | 2, _ => rfl
  | 3, _ => rfl
  | 4, _ => rfl
  | 5, _ => rfl
  | 6, _ => rfl
  | 7, _ => rfl
theorem idx8 (a : Array Value) (k : Nat) (hk : k < 8) (x : Int) (hx : a[k]? = some (.int .i64 x)) (w : World) :
    (Instr.index 77 (.agg a) (.int .i64 k)).run Tryd.prog w = .ok (.int .i64 x) w := by
  simp [Instr.index, run_underlying Tryd.underlying77, asIntOf, go_sem, hk, hx, Tryd.sizeOf3, Tryd.isAgg3]
theorem fs8 {l : List Int} (h : l.length = 8) : ∃ a b c d e f g i, l = [a, b, c, d, e, f, g, i] := by
  match l, h with
  | [a, b, c, d, e, f, g, i], _ => exact ⟨a, b, c, d, e, f, g, i, rfl⟩
def NrRel (W : World) (ab : Nat) (lk : Array Value) (H : Hp) (i : Nat) (v j : Value) (wr : World) : Prop :=
  ∃ k n : Nat, k ≤ 8 ∧ j = .int .i64 k ∧ Hid ((nrK H i k).length = n) ∧ n ≤ k ∧ Hid (wr.ownsRow (ab + 1) 3 1 v n (intsZ (nrK H i k))) ∧ Hid (At wr ab 68 lk) ∧ Hid (Below W.heap.size W wr) ∧ ab < wr.heap.size
theorem nrK_no {H : Hp} {i k : Nat} (h : nrB H i k = false) : nrK H i (k + 1) = nrK H i k := by rw [nrK, h]; simp
theorem nrK_yes {H : Hp} {i k : Nat} (h : nrB H i k = true) : nrK H i (k + 1) = nrK H i k ++ [fsd H i k] := by rw [nrK, h]; simp
def NearQ (ls : List Int) (w : World) (e : Ending) (w' : World) : Prop :=
  ∃ A c, e = .returned (.slice A ls.length c) ∧ IRz w' A ls ∧ Below w.heap.size w w' ∧ ∀ a, A = some a → w.heap.size ≤ a.block

set_option maxRecDepth 100000 in
set_option maxHeartbeats 2000000 in
theorem near_any (P : Nat → Prop) (v : Value) (H : Option Hp) (o : Int) (w : World) (h : PM w P v H) :
    Calls Tryd.prog 15 #[v, .int .i64 o] w (NearQ (nearO H o) w) := by
  have HP := Lib.hid h
  clear h
  cases hh : hasO H o with
  | false =>
    have he : nearO H o = [] := by
      cases H with
      | none => rfl
      | some H => show (if hasO (some H) o = true then _ else _) = _; rw [hh, if_neg (by decide)]
    rw [he]
    have HH := Lib.hid hh
    clear hh he
    go_enter Tryd.func15, Tryd.ntmps15
    go_wp2_with (go_at_call 30; refine (has_obj P _ _ o false _ HP.out HH).mono ?_; rintro e w' ⟨rfl, rfl⟩)
    go_ret
    exact ⟨none, 0, rfl, fun h => absurd h (by simp), Below.refl _ _, fun a ha => by cases ha⟩
  | true =>
    cases H with
    | none =>
      unfold hasO at hh
      rw [Bool.and_eq_true, decide_eq_true_eq, decide_eq_true_eq] at hh
      have h2 : o ≤ ((0 : Nat) : Int) := hh.2
      omega
    | some H =>
      obtain ⟨hb, sv, ov, rfl, hm⟩ := HP.out
      obtain ⟨i, hi, hoi, hti⟩ := has_num hh
      have he : nearO (some H) o = nrL H i := by
        show (if hasO (some H) o = true then _ else _) = _
        rw [hh, if_pos rfl, hti]
      rw [he]
      obtain ⟨ob, s, h1, h2, h3, h4, h5, h6⟩ := ob_at hm hi
      obtain ⟨og, oc, rfl, ho2, ho3⟩ := hm.oform hi
      obtain ⟨x0, x1, x2, x3, x4, x5, x6, x7, hfs⟩ := fs8 h5
      have hno := hm.ok.no
      have hsa : shA (H.st i) = .agg #[.string s.name, .int .i64 s.fields.length, .bool (linkB s.fields 0), .bool (linkB s.fields 1), .bool (linkB s.fields 2), .bool (linkB s.fields 3), .bool (linkB s.fields 4), .bool (linkB s.fields 5), .bool (linkB s.fields 6), .bool (linkB s.fields 7)] := by rw [h4]; rfl
      have hfd := fld2 s.name s.fields.length (linkB s.fields 0) (linkB s.fields 1) (linkB s.fields 2) (linkB s.fields 3) (linkB s.fields 4) (linkB s.fields 5) (linkB s.fields 6) (linkB s.fields 7)
      obtain ⟨i0, hi0, hz0, hz1, hz2⟩ := info_parts int_info
      have HI0 := Lib.hid hi0
      have HZ0 := Lib.hid hz0
      have HZ1 := Lib.hid hz1
      have HZ2 := Lib.hid hz2
      have HH := Lib.hid hh
      have HO := Lib.hid hoi
      have HM := Lib.hid hm
      have HS := Lib.hid hsa
      have H1 := Lib.hid h1
      have H3 := Lib.hid h3
      have H4 := Lib.hid h4
      have HFS := Lib.hid hfs
      have hw : IntKind.i64.wrap (o - 1) = (i : Int) := by rw [hoi, show (i : Int) + 1 - 1 = i by omega]; exact IntWalk.i64_in _ (by omega)
      clear hh hoi hti hm hsa h1 h2 h3 h4 h5 h6 hfs he hi0 hz0 hz1 hz2
      go_enter Tryd.func15, Tryd.ntmps15
      go_wp2_with (first | (go_at_call 30; refine (has_obj P _ _ o true _ HP.out HH).mono ?_; rintro e w' ⟨rfl, rfl⟩) | (go_at_call 31; refine (shape_any P hb sv _ H i o _ HM.out hi HO).mono ?_; rintro e w1 ⟨rfl, hw1⟩; rw [HS.out]; refine Hid.out ?_))
      have hm1 := HM.out.below hw1
      have c1 := hm1.c1
      obtain ⟨-, d⟩ := hm1.orow H1.out
      have d0 := d 0 x0 (by rw [HFS.out]; rfl)
      have d1 := d 1 x1 (by rw [HFS.out]; rfl)
      have d2 := d 2 x2 (by rw [HFS.out]; rfl)
      have d3 := d 3 x3 (by rw [HFS.out]; rfl)
      have d4 := d 4 x4 (by rw [HFS.out]; rfl)
      have d5 := d 5 x5 (by rw [HFS.out]; rfl)
      have d6 := d 6 x6 (by rw [HFS.out]; rfl)
      have d7 := d 7 x7 (by rw [HFS.out]; rfl)
      have hlo : og < w1.heap.size := Nat.lt_of_lt_of_le ho3 hw1.size
      have hlb : hb < w1.heap.size := Nat.lt_of_lt_of_le HM.out.lt hw1.size
      clear d hm1
      have HI := Lib.hid hi
      generalize H.obs.length = m at *
      refine Lib.hid ?_
      go_wp2_with fail
      have A1 := at_new w1 68 (lkA s)
      have B1 := Lib.hid ((hw1.mono (Nat.le_refl _)).alloc hw1.size (.cells (lkA s) 68))
      have hz1 : w1.heap.size < (w1.alloc (.cells (lkA s) 68)).heap.size := by simp
      have hbw : w.heap.size ≤ w1.heap.size := hw1.size
      have hix : ∀ (k : Nat), k < 8 → ∀ w, (Instr.index 77 (.agg #[.int .i64 x0, .int .i64 x1, .int .i64 x2, .int .i64 x3, .int .i64 x4, .int .i64 x5, .int .i64 x6, .int .i64 x7]) (.int .i64 k)).run Tryd.prog w = .ok (.int .i64 (fsd H i k)) w := by
        intro k hk w
        refine idx8 _ k hk _ ?_ w
        unfold fsd
        rw [H3.out, HFS.out]
        match k, hk with
        | 0, _ => rfl
        | 1, _ => rfl
        | 2, _ => rfl
        | 3, _ => rfl
        | 4, _ => rfl
        | 5, _ => rfl
        | 6, _ => rfl
        | 7, _ => rfl
      have HIX := Lib.hid hix
      have HA1 := Lib.hid A1
      clear A1 hix d0 d1 d2 d3 d4 d5 d6 d7 c1 hlo hlb hw hfd hw1
      unfold lkA at HA1 B1 hz1
      generalize w1.alloc (.cells #[.bool (linkB s.fields 0), .bool (linkB s.fields 1), .bool (linkB s.fields 2), .bool (linkB s.fields 3), .bool (linkB s.fields 4), .bool (linkB s.fields 5), .bool (linkB s.fields 6), .bool (linkB s.fields 7)] 68) = w2 at *
      generalize w1.heap.size = ab at *
      change Hid (At w2 ab 68 (lkA s)) at HA1
      generalize #[Value.int .i64 x0, Value.int .i64 x1, Value.int .i64 x2, Value.int .i64 x3, Value.int .i64 x4, Value.int .i64 x5, Value.int .i64 x6, Value.int .i64 x7] = fa at *
      go_loopw [5, 26] (fun v j wr => NrRel w ab (lkA s) H i v j wr) (fun _ j _ => 8 - (intOf j).toNat)
      case atStart => exact ⟨0, 0, by omega, rfl, rfl, Nat.le_refl _, World.ownsRow_nil _ _ _ _, HA1, B1, hz1⟩
      case round =>
        obtain ⟨k, n, hk, rfl, HN, hnk, HW, HA, HB, hab⟩ := hrel
        by_cases hlt : k < 8
        · have hx := HIX.out k hlt
          have hc : wr.cell? ⟨ab, k, none⟩ = some (.bool (linkB s.fields k)) := (HA.out.cell k).trans (lk_at s k hlt)
          have hnb : nrB H i k = (linkB s.fields k && hasO (some H) (fsd H i k)) := by unfold nrB; rw [H4.out]
          have hlt' : (k : Int) < 8 := by omega
          have hge' : (0 : Int) ≤ (k : Int) := by omega
          generalize hx2 : fsd H i k = x at *
          cases hL : linkB s.fields k with
          | false =>
            rw [hL] at hnb hc
            have hno := Lib.hid (nrK_no hnb)
            clear hnb hL
            go_wp2_with fail
            go_roundw
            case rel => exact ⟨k + 1, n, by omega, by go_num, by show _ = _; rw [hno.out]; exact HN.out, by omega, by show World.ownsRow _ _ _ _ _ _ _; rw [hno.out]; exact HW.out, HA, HB, hab⟩
            case measure => simp [intOf]; omega
          | true =>
            rw [hL] at hc
            cases hH : hasO (some H) x with
            | false =>
              rw [hL, hH] at hnb
              have hno := Lib.hid (nrK_no hnb)
              have HPr := Lib.hid (HP.out.below HB.out)
              have HH2 := Lib.hid hH
              clear hnb hL hH
              go_wp2_with (go_at_call 30; refine (has_obj P _ _ x false _ HPr.out HH2).mono ?_; rintro e w' ⟨rfl, rfl⟩)
              go_roundw
              case rel => exact ⟨k + 1, n, by omega, by go_num, by show _ = _; rw [hno.out]; exact HN.out, by omega, by show World.ownsRow _ _ _ _ _ _ _; rw [hno.out]; exact HW.out, HA, HB, hab⟩
              case measure => simp [intOf]; omega
            | true =>
              rw [hL, hH] at hnb
              have hys := nrK_yes hnb
              rw [hx2] at hys
              have HYS := Lib.hid hys
              have HPr := Lib.hid (HP.out.below HB.out)
              have HH2 := Lib.hid hH
              clear hnb hL hH hys
              go_wp2_with (first | (go_at_call 30; refine (has_obj P _ _ x true _ HPr.out HH2).mono ?_; rintro e w' ⟨rfl, rfl⟩) | (at_builtin; refine Hid.out ?_))
              refine Lib.hid ?_
              refine wpList_append_lies _ rfl (.tmp 38) (.tmp 40) _ rfl (ab + 1) 3 i0 _ 1 8 Tryd.underlying24 HI0.out HZ0.out HZ1.out HZ2.out rfl (by omega) u5 n _ rfl (HW.out.alloc _) ⟨wr.heap.size, 0, none⟩ 1 1 [.int .i64 x] rfl rfl (by exact news0 wr 3 _) (by simp [Value.oneCell']) (by omega) (by simp only [maxLen]; omega) (by omega) (by simp; omega) (wr.heap.size + 1) (by simp) ?_
              intro g cap w6 hown hg hat hlt6
              have HN6 : Hid ((nrK H i (k + 1)).length = n + 1) := by show _ = _; rw [HYS.out, List.length_append, HN.out]; rfl
              have HW6 : Hid (w6.ownsRow (ab + 1) 3 1 (.slice (some ⟨g, 0, none⟩) (n + 1) cap) (n + 1) (intsZ (nrK H i (k + 1)))) := by
                show World.ownsRow _ _ _ _ _ _ _
                rw [HYS.out]
                unfold intsZ
                rw [List.map_append]; exact hown
              have HB6 : Hid (Below w.heap.size w w6) := (HB.out.alloc HB.out.size _).grown hg (by have := HB.out.size; simp; omega) (fun y hy => by have := (HW.out.lt y hy).1; omega)
              have b6 : Below (ab + 1) wr w6 := ((Below.refl _ _).alloc (by omega) _).grown hg (by simp; omega) (fun y hy => (HW.out.lt y hy).1)
              have HA6 : Hid (At w6 ab 68 (lkA s)) := HA.out.below b6 (by omega)
              have hab6 : ab < w6.heap.size := Nat.lt_of_lt_of_le hab b6.size
              clear hown hg hat b6
              go_wp2_with fail
              go_roundw
              case rel => exact ⟨k + 1, n + 1, by omega, by go_num, HN6, by omega, HW6, HA6, HB6, hab6⟩
              case measure => simp [intOf]; omega
        · obtain rfl : k = 8 := by omega
          obtain ⟨A, c, rfl, hnc⟩ := own_form HW.out
          have hle := nrL_len H i
          cases n with
          | zero =>
            have h0 : nrL H i = [] := by
              unfold nrL
              rw [List.length_eq_zero_iff.1 HN.out, List.mergeSort_nil]; rfl
            have h0 := Lib.hid h0
            go_wp2_with (first | (go_at_call 32; refine (Tryd.slices_Sort_int_none _ _ _).mono ?_; rintro e w' ⟨rfl, rfl⟩) | (go_at_call 33; refine (Tryd.slices_Compact_int_empty _ _ _).mono ?_; rintro e w' ⟨rfl, rfl⟩))
            go_ret
            refine ⟨A, c, by rw [h0.out]; rfl, fun h => absurd h (by rw [h0.out]; simp), HB.out, fun a ha => ?_⟩
            subst ha
            have := (HW.out.lt a.block rfl).1
            omega
          | succ n =>
            obtain ⟨g, c2, e1, hg1, hg2⟩ := HW.out.form (by omega)
            cases e1
            obtain ⟨hrl, hrow⟩ := row_own HW.out
            have HROW := Lib.hid hrow
            have HRL := Lib.hid hrl
            have HML : Hid (((nrK H i 8).mergeSort fun x y => decide (x ≤ y)).length = n + 1) := by show _ = _; rw [List.length_mergeSort]; exact hrl
            clear hrl hrow
            go_wp2_with (first | (go_at_call 32; refine (sort_row g c (n + 1) (nrK H i 8) g wr HROW.out HRL (by omega) hg2 (Nat.le_refl _)).mono ?_; rintro e w3 ⟨rfl, hb3, hr3⟩; refine Hid.out ?_))
            have hg3 : g < w3.heap.size := Nat.lt_of_lt_of_le hg2 hb3.size
            have HR3 := Lib.hid hr3
            clear hr3
            refine Lib.hid ?_
            go_wp2_with (first | (go_at_call 33; refine (compact_row g c (n + 1) _ g w3 HR3.out HML (by omega) hnc hg3 (Nat.le_refl _)).mono ?_; rintro e w4 ⟨rfl, hb4, hr4⟩))
            go_ret
            have hbb : Below w.heap.size w w4 := HB.out.trans ((hb3.trans hb4).mono (by omega))
            exact ⟨some ⟨g, 0, none⟩, c, rfl, row_ir hr4 (Nat.lt_of_lt_of_le hg3 hb4.size), hbb, fun a ha => by obtain rfl := Option.some.inj ha; show _ ≤ g; omega⟩

end Go.Proofs.YtjgmhkplgenieaaDoor
