/-
  CONTRACTS: strconv.Itoa, ir's value, line, addIfAny. Conditions: the library's table of powers lies as it is laid; texts short enough for memory. Of what was there nothing has turned but a row of one's own.
-/
import Derived.Test.YtcbjcpmkebbfaaaDoorShelf
import Derived.Test.YtcbjcpmkebbfaaaDoorIrLinesP
import Derived.Lib.LaidTab
import Derived.Lib.SmallJoins
import Derived.Lib.AppendIntMem
namespace Go.Proofs.YtcbjcpmkebbfaaaDoor
open Go.RowKit

abbrev PowIn (w : World) : Prop := Lib.TabIs Tryd.prog w "internal/strconv.uint64pow10" .u64 Lib.pow10Tab
set_option maxHeartbeats 400000 in
theorem itoa_any (n : Int) (w : World) (hn : I64 n) (hp : PowIn w) : Calls Tryd.prog 44 #[.int .i64 n] w fun e w' => e = .returned (.string (num n)) ∧ Below w.heap.size w w' := by
  refine (Tryd.strconv_Itoa n hn.1 hn.2 w hp).mono ?_
  rintro e w' ⟨rfl, k, os, rfl⟩
  exact ⟨rfl, Lib.below_grow _ _ (Nat.le_refl _) _ _⟩
def vS (n : Int) : ByteArray := (⟨#[118]⟩ : ByteArray) ++ num n
set_option maxHeartbeats 400000 in
theorem value_any (n : Int) (w : World) (hn : I64 n) (hp : PowIn w) : Calls Tryd.prog 42 #[.int .i64 n] w fun e w' => e = .returned (.string (vS n)) ∧ Below w.heap.size w w' := by
  obtain ⟨s, hs⟩ : ∃ s, num n = s := ⟨_, rfl⟩
  have hz := num_size n hn
  have K := Lib.hid (itoa_any n w hn hp)
  unfold vS
  rw [hs] at hz K ⊢
  clear hs
  go_enter Tryd.func42, Tryd.ntmps42
  go_wp2_with fail
  refine K.out.mono ?_
  rintro e w2 ⟨rfl, b2⟩
  have B := Lib.hid b2
  clear b2
  go_wp2_with fail
  go_ret
  exact ⟨rfl, B.out⟩

/-- Words with one blank between each two. -/
def joinB (l : List ByteArray) : ByteArray := ⟨(Lib.join (l.map (·.data.toList)) [32]).toArray⟩
theorem joinB_nil : joinB [] = ⟨#[]⟩ := rfl
theorem ba_app (a b : ByteArray) : (a ++ b).data.toList = a.data.toList ++ b.data.toList := by
  rw [ByteArray.data_append, Array.toList_append]
theorem joinB_cons (x : ByteArray) (r : List ByteArray) : joinB (x :: r) = r.foldl spS x := by
  refine Go.WideShapes.bytes_inj ?_
  show (Lib.join ((x :: r).map (·.data.toList)) [32]) = _
  rw [List.map_cons, Lib.join_cons]
  induction r generalizing x with
  | nil => simp [Lib.joinTail]
  | cons y r ih =>
    rw [List.foldl_cons, ← ih (spS x y)]
    show _ ++ _ = ((x ++ (⟨#[32]⟩ : ByteArray)) ++ y).data.toList ++ _
    rw [ba_app, ba_app]
    simp [Lib.joinTail]
theorem join_len (l : List ByteArray) (M : Nat) (h : ∀ x ∈ l, x.size ≤ M) : (Lib.join (l.map (·.data.toList)) [32]).length ≤ l.length * (M + 1) := by
  cases l with
  | nil => simp [Lib.join_nil]
  | cons x r =>
    rw [List.map_cons, Lib.join_cons, List.length_append]
    have key : ∀ r : List ByteArray, (∀ y ∈ r, y.size ≤ M) → (Lib.joinTail [32] (r.map (·.data.toList))).length ≤ r.length * (M + 1) := by
      intro r
      induction r with
      | nil => intro _; simp [Lib.joinTail]
      | cons y r ih =>
        intro hr
        have h1 := ih (fun z hz => hr z (List.mem_cons_of_mem _ hz))
        have h2 : y.data.toList.length ≤ M := by rw [Array.length_toList]; exact hr y (List.mem_cons_self ..)
        simp only [Lib.joinTail, List.map_cons, List.flatten_cons, List.length_append, List.length_cons, List.length_nil] at h1 ⊢
        rw [Nat.succ_mul]
        omega
    have h1 := key r (fun y hy => h y (List.mem_cons_of_mem _ hy))
    have h2 : x.data.toList.length ≤ M := by rw [Array.length_toList]; exact h x (List.mem_cons_self ..)
    rw [List.length_cons, Nat.succ_mul]
    omega
set_option maxHeartbeats 400000 in
theorem line_any (A : Option Addr) (c m : Nat) (l : List ByteArray) (w : World) (hR : SL 1 txtR w A l) (hm : l.length = m) (hc : m ≤ c) (hl : m ≤ 4096) (hz : ∀ x ∈ l, x.size ≤ 1073741824) :
    Calls Tryd.prog 30 #[.slice A m c] w fun e w' => e = .returned (.string (joinB l)) ∧ Below w.heap.size w w' := by
  have K : Hid (Calls Tryd.prog 50 #[.slice A m c, .string ⟨#[32]⟩] w fun e w' => e = .returned (.string (joinB l)) ∧ Below w.heap.size w w') := by
    subst hm
    rcases Nat.eq_zero_or_pos l.length with h0 | h0
    · rw [h0]
      obtain rfl := List.length_eq_zero_iff.1 h0
      refine (Tryd.strings_Join_none A c ⟨#[32]⟩ w).mono ?_
      rintro e w' ⟨rfl, rfl⟩
      exact ⟨rfl, Below.refl _ _⟩
    · obtain ⟨b, o, rfl, hb, hcs⟩ := hR h0
      refine (Tryd.strings_Join b o c l ⟨#[32]⟩ w (fun j x hx => ?_) hb (by omega) hc ?_).mono ?_
      · obtain ⟨cs, rfl, h⟩ := hcs j x hx
        have := h 0 _ rfl
        simpa using this
      · have h1 := join_len l 1073741824 hz
        have h2 : l.length * (1073741824 + 1) ≤ 4096 * (1073741824 + 1) := Nat.mul_le_mul_right _ hl
        show (Lib.join _ [32]).length ≤ _
        omega
      · rintro e w' ⟨rfl, b⟩
        exact ⟨rfl, b⟩
  obtain ⟨s, hs⟩ : ∃ s, joinB l = s := ⟨_, rfl⟩
  rw [hs] at K ⊢
  clear hR hm hz hs
  go_enter Tryd.func30, Tryd.ntmps30
  go_wp2_with fail
  refine K.out.mono ?_
  rintro e w2 ⟨rfl, b2⟩
  have B := Lib.hid b2
  clear b2
  go_wp2_with fail
  go_ret
  exact ⟨rfl, B.out⟩
theorem line_own {w : World} {base : Nat} {v : Value} {l : List ByteArray} (h : OT w base v l) (hl : l.length ≤ 4096) (hz : ∀ x ∈ l, x.size ≤ 1073741824) :
    Calls Tryd.prog 30 #[v] w fun e w' => e = .returned (.string (joinB l)) ∧ Below w.heap.size w w' := by
  obtain ⟨A, c, rfl, hc, hR⟩ := h.sl
  exact line_any A c l.length l w hR rfl hc hl hz

/-- What a call that may add to a row of one's own leaves. -/
structure AddQ (base : Nat) (v : Value) (l : List ByteArray) (w : World) (v' : Value) (w' : World) : Prop where
  ot : OT w' base v' l
  sv : Sv (Ow v) w w'
  ow : ∀ k, Ow v' k → Ow v k ∨ w.heap.size ≤ k
def addW (l : List ByteArray) (y : ByteArray) : List ByteArray := if y.size = 0 then l else l ++ [y]
set_option maxHeartbeats 400000 in
theorem addIf_any (base : Nat) (v : Value) (l : List ByteArray) (y : ByteArray) (w : World) (hO : OT w base v l) (hl : l.length ≤ 1099511627776) (hb : base ≤ w.heap.size) :
    Calls Tryd.prog 43 #[v, .string y] w fun e w' => ∃ v', e = .returned v' ∧ AddQ base v (addW l y) w v' w' := by
  have HO := Lib.hid hO
  clear hO
  by_cases h0 : y.size = 0
  · have he : addW l y = l := if_pos h0
    have hy := empty_toList h0
    rw [he]
    go_enter Tryd.func43, Tryd.ntmps43
    go_wp2_with fail
    go_ret
    exact ⟨v, rfl, HO.out, Sv.refl _ _, fun k hk => .inl hk⟩
  · have he : addW l y = l ++ [y] := if_neg h0
    have hy := nonempty_toList h0
    rw [he]
    go_enter Tryd.func43, Tryd.ntmps43
    go_wp2_with (at_builtin; refine Hid.out ?_)
    refine Lib.hid ?_
    refine app_txt rfl (.tmp 8) (.tmp 10) 31 rfl Tryd.underlying31 w base v l y rfl HO.out rfl hl hb ?_
    intro v' w' hO' hS hsz how
    have HA := Lib.hid (show AddQ base v (l ++ [y]) w v' w' from ⟨hO', hS, how⟩)
    clear hO' hS hsz how
    go_wp2_with fail
    go_ret
    exact ⟨_, rfl, HA.out⟩

end Go.Proofs.YtcbjcpmkebbfaaaDoor
