/-
  CONTRACT: Join at every list of at most 2^20 tokens whose texts are together short enough; of what was there nothing has turned.
-/
import Derived.Test.YteikheaanefgbaaDoorScan
import Derived.Test.YteikheaanefgbaaDoorShelfJoin
import Derived.Laws.OwnMore
namespace Go.Proofs.YteikheaanefgbaaDoor
open Go.RowKit

/-- The slice's elements read as these tokens. -/
def TokAt (w : World) (g i : Nat) (t : Tok) : Prop := w.cell? ⟨g, i * 3, none⟩ = some (.int .i64 t.kind) ∧ w.cell? ⟨g, i * 3 + 1, none⟩ = some (.string ⟨t.text.toArray⟩) ∧ w.cell? ⟨g, i * 3 + 2, none⟩ = some (.int .i64 t.place)
def TR (w : World) (A : Option Addr) (ts : List Tok) : Prop := 0 < ts.length → ∃ g, A = some ⟨g, 0, none⟩ ∧ g < w.heap.size ∧ ∀ i t, ts[i]? = some t → TokAt w g i t
theorem TR.below {w w' : World} {A : Option Addr} {ts : List Tok} (h : TR w A ts) (hb : Below w.heap.size w w') : TR w' A ts := by
  intro h0
  obtain ⟨g, hA, hg, hc⟩ := h h0
  refine ⟨g, hA, Nat.lt_of_lt_of_le hg hb.size, fun i t ht => ?_⟩
  obtain ⟨a, b, c⟩ := hc i t ht
  exact ⟨(hb.cell (p := ⟨g, i * 3, none⟩) hg).trans a, (hb.cell (p := ⟨g, i * 3 + 1, none⟩) hg).trans b, (hb.cell (p := ⟨g, i * 3 + 2, none⟩) hg).trans c⟩
theorem cellsT_at (ts : List Tok) : ∀ (i : Nat) (t : Tok), ts[i]? = some t → (cellsT ts)[i * 3]? = some (.int .i64 t.kind) ∧ (cellsT ts)[i * 3 + 1]? = some (.string ⟨t.text.toArray⟩) ∧ (cellsT ts)[i * 3 + 2]? = some (.int .i64 t.place) := by
  induction ts with
  | nil => intro i t h; simp at h
  | cons a r ih =>
    intro i t h
    have hc : cellsT (a :: r) = .int .i64 a.kind :: .string ⟨a.text.toArray⟩ :: .int .i64 a.place :: cellsT r := by simp [cellsT]
    cases i with
    | zero =>
      simp at h
      subst h
      rw [hc]
      exact ⟨rfl, rfl, rfl⟩
    | succ i =>
      have := ih i t (by simpa using h)
      rw [hc, show (i + 1) * 3 = i * 3 + 3 by omega, show i * 3 + 3 + 1 = i * 3 + 1 + 3 by omega, show i * 3 + 3 + 2 = i * 3 + 2 + 3 by omega]
      simpa using this
theorem cellsT_len (ts : List Tok) : (cellsT ts).length = ts.length * 3 := by
  induction ts with
  | nil => rfl
  | cons a r ih =>
    have hc : cellsT (a :: r) = .int .i64 a.kind :: .string ⟨a.text.toArray⟩ :: .int .i64 a.place :: cellsT r := by simp [cellsT]
    rw [hc, List.length_cons, List.length_cons, List.length_cons, List.length_cons, ih]; omega
theorem tr_own {w : World} {base : Nat} {e : TypeId} {v : Value} {ts : List Tok} (h : w.ownsRow base e 3 v ts.length (cellsT ts)) : ∃ A c, v = .slice A ts.length c ∧ ts.length ≤ c ∧ TR w A ts := by
  rcases Nat.eq_zero_or_pos ts.length with h0 | h0
  · rcases h.2 with ⟨rfl, _⟩ | ⟨g, cap, cur, rfl, _, _, hc, _⟩
    · exact ⟨none, 0, by rw [h0], by omega, fun h => by omega⟩
    · exact ⟨_, _, rfl, hc, fun h => by omega⟩
  · obtain ⟨g, cap, rfl, hb, hlt⟩ := h.form h0
    have hcap : ts.length ≤ cap := by
      rcases h.2 with ⟨h1, _⟩ | ⟨g', cap', cur, h1, _, _, hc, _⟩
      · cases h1
      · injection h1 with _ _ h1; omega
    refine ⟨_, _, rfl, hcap, fun _ => ⟨g, rfl, hlt, fun i t ht => ?_⟩⟩
    have hi : i < ts.length := (List.getElem?_eq_some_iff.1 ht).1
    obtain ⟨a, b, c⟩ := cellsT_at ts i t ht
    exact ⟨(h.cellAt (i * 3) (by omega)).trans a, (h.cellAt (i * 3 + 1) (by omega)).trans b, (h.cellAt (i * 3 + 2) (by omega)).trans c⟩

theorem str_info : (Tryd.prog.info? 9).map (fun i => (i.zero, i.size, i.bytes)) = some (some (.string ⟨#[]⟩), 1, 16) := by kernel_rfl
def strsOf (ts : List Tok) : List Value := ts.map fun t => .string ⟨t.text.toArray⟩
theorem strs_snoc (ts : List Tok) (k : Nat) (t : Tok) (h : ts[k]? = some t) : strsOf (ts.take (k + 1)) = strsOf (ts.take k) ++ [.string ⟨t.text.toArray⟩] := by
  obtain ⟨hk, rfl⟩ := List.getElem?_eq_some_iff.1 h
  unfold strsOf
  rw [List.take_succ_eq_append_getElem hk, List.map_append]; rfl
theorem news1 (w : World) (A : Array Value) (t e : TypeId) (a : Value) : ∀ j u, [a][j]? = some u → ((w.alloc (.cells A t)).alloc (.cells #[a] e)).cell? ((⟨w.heap.size + 1, 0, none⟩ : Addr).add j) = some u := by
  have h := heap_alloc_new (w.alloc (.cells A t)) (.cells #[a] e)
  rw [show (w.alloc (.cells A t)).heap.size = w.heap.size + 1 by simp] at h
  exact World.news_of_block h
def JRel (w : World) (ts : List Tok) (v i : Value) (wr : World) : Prop :=
  ∃ k : Nat, k ≤ ts.length ∧ i = .int .i64 k ∧ Hid (wr.ownsRow w.heap.size 9 1 v k (strsOf (ts.take k))) ∧ Below w.heap.size w wr

set_option maxHeartbeats 400000 in
theorem join_any (A : Option Addr) (c : Nat) (ts : List Tok) (x : ByteArray) (w : World) (hT : TR w A ts) (hn : ts.length ≤ 1048576) (hx : Hid (Lib.join (ts.map (·.text)) [32] = x.data.toList)) (hxs : x.size ≤ 140737488355328) :
    Calls Tryd.prog 16 #[.slice A ts.length c] w fun e w' => e = .returned (.string x) ∧ Below w.heap.size w w' := by
  obtain ⟨i0, hi0, hz0, hz1, hz2⟩ := info_parts str_info
  have HI0 := Lib.hid hi0
  have HZ0 := Lib.hid hz0
  have HZ1 := Lib.hid hz1
  have HZ2 := Lib.hid hz2
  have HT := Lib.hid hT
  obtain ⟨n, hnn⟩ : ∃ n, ts.length = n := ⟨_, rfl⟩
  have HN := Lib.hid hnn
  rw [hnn] at hn ⊢
  clear hi0 hz0 hz1 hz2 hT hnn
  go_enter Tryd.func16, Tryd.ntmps16
  go_wp2_with fail
  go_loopw [3, 8] (fun v i wr => JRel w ts v i wr) (fun _ i _ => ts.length - (intOf i).toNat)
  case atStart => exact ⟨0, Nat.zero_le _, rfl, World.ownsRow_nil _ _ _ _, Below.refl _ _⟩
  case round =>
    obtain ⟨k, hk, rfl, HO, hb⟩ := hrel
    have hkn : k ≤ n := by have := HN.out; omega
    by_cases hlt : k < n
    · obtain ⟨g, rfl, hg, hcs⟩ := HT.out (by have := HN.out; omega)
      obtain ⟨t, ht⟩ : ∃ t, ts[k]? = some t := ⟨_, List.getElem?_eq_getElem (by have := HN.out; omega)⟩
      obtain ⟨c0, c1, c2⟩ := hcs k t ht
      have c0 := (hb.cell (p := ⟨g, k * 3, none⟩) hg).trans c0
      have c1 := (hb.cell (p := ⟨g, k * 3 + 1, none⟩) hg).trans c1
      have c2 := (hb.cell (p := ⟨g, k * 3 + 2, none⟩) hg).trans c2
      have HTK := Lib.hid ht
      have HCS := Lib.hid hcs
      clear ht hcs
      obtain ⟨tk, tt, tp⟩ := t
      go_wp2_with (at_builtin; refine Hid.out ?_)
      refine Lib.hid ?_
      refine wpList_append_lies _ rfl (.tmp 12) (.tmp 15) _ rfl w.heap.size 9 i0 _ 1 16 Tryd.underlying47 HI0.out HZ0.out HZ1.out HZ2.out rfl (by omega) u3 k (strsOf (ts.take k)) rfl (by exact (HO.out.alloc _).alloc _) ⟨wr.heap.size + 1, 0, none⟩ 1 1 [.string ⟨tt.toArray⟩] rfl rfl (by exact news1 wr _ 32 9 _) (by simp [Value.oneCell']) (by omega) (by simp only [maxLen]; omega) (by omega) (by simp; have := hb.size; omega) (wr.heap.size + 2) (by simp) ?_
      intro g2 cap w2 hown2 hg2 hat2 hlt2
      have hb3 : Below w.heap.size w w2 := ((hb.alloc hb.size _).alloc (by simp; have := hb.size; omega) _).grown hg2 (by simp; have := hb.size; omega) (fun k hk => (HO.out.lt k hk).1)
      have hown3 : w2.ownsRow w.heap.size 9 1 (.slice (some ⟨g2, 0, none⟩) (k + 1) cap) (k + 1) (strsOf (ts.take (k + 1))) := by
        rw [strs_snoc ts k _ HTK.out]; exact hown2
      have HO3 := Lib.hid hown3
      clear hown2 hown3 hg2 hat2 c0 c1 c2
      go_wp2_with fail
      go_roundw
      case rel => exact ⟨k + 1, by have := HN.out; omega, by go_num, HO3, hb3⟩
      case measure => simp [intOf]; have := HN.out; omega
    · have hkk : k = n := by omega
      have HO2 : Hid (wr.ownsRow w.heap.size 9 1 u3 n (strsOf ts)) := by
        have := HO.out
        rw [hkk, ← HN.out, List.take_length] at this
        rw [← HN.out]; exact this
      by_cases h0 : n = 0
      · have hu3 : ∃ A c, u3 = .slice A 0 c := by
          rcases HO2.out.2 with ⟨h, _⟩ | ⟨g, cap, cur, h, _⟩
          · exact ⟨none, 0, h⟩
          · exact ⟨_, _, by rw [h, h0]⟩
        obtain ⟨A', c', rfl⟩ := hu3
        have hx0 : x = ⟨#[]⟩ := Go.WideShapes.bytes_inj (by
          rw [← hx.out, List.length_eq_zero_iff.1 (HN.out.trans h0)]; rfl)
        subst hx0
        clear HO HO2 hkk h0
        go_wp2_with (go_at_call 27; refine (Tryd.strings_Join_none _ _ _ _).mono ?_; rintro e w' ⟨rfl, rfl⟩)
        go_ret
        exact ⟨rfl, hb⟩
      · obtain ⟨g, cap, rfl, hg, hgl⟩ := HO2.out.form (by omega)
        have hcap : n ≤ cap := by
          rcases HO2.out.2 with ⟨h1, _⟩ | ⟨g', cap', cur, h1, _, _, hc, _⟩
          · cases h1
          · injection h1 with _ _ h1; omega
        have hj : Calls Tryd.prog 27 #[.slice (some ⟨g, 0, none⟩) n cap, .string ⟨#[32]⟩] wr fun e w' => e = .returned (.string x) ∧ Below wr.heap.size wr w' := by
          have hl : (ts.map fun t => (⟨t.text.toArray⟩ : ByteArray)).length = n := by rw [List.length_map]; exact HN.out
          have hm : ((ts.map fun t => (⟨t.text.toArray⟩ : ByteArray)).map (·.data.toList)) = ts.map (·.text) := by
            rw [List.map_map]; rfl
          have h := Tryd.strings_Join g 0 cap (ts.map fun t => (⟨t.text.toArray⟩ : ByteArray)) ⟨#[32]⟩ wr ?_ hgl (by omega) (by omega) ?_
          · rw [hl, hm] at h
            refine h.mono ?_
            rintro e w' ⟨rfl, hbb⟩
            exact ⟨ret_str (Go.WideShapes.bytes_inj hx.out), hbb⟩
          · intro j y hy
            rw [Nat.zero_add, HO2.out.cellAt j (by have := (List.getElem?_eq_some_iff.1 hy).1; rw [hl] at this; omega)]
            unfold strsOf
            rw [List.getElem?_map] at hy ⊢
            cases htj : ts[j]? with
            | none => rw [htj] at hy; cases hy
            | some t => rw [htj] at hy; exact congrArg some (congrArg Value.string (Option.some.inj hy))
          · rw [hm, show (⟨#[32]⟩ : ByteArray).data.toList = [32] from rfl, hx.out, len_size]; exact hxs
        have HJ := Lib.hid hj
        clear hj HO HO2 hkk h0 hcap hg hgl
        go_wp2_with fail
        refine HJ.out.mono ?_
        rintro e w' ⟨rfl, hbj⟩
        go_wp2_with fail
        go_ret
        exact ⟨rfl, hb.trans (hbj.mono hb.size)⟩

end Go.Proofs.YteikheaanefgbaaDoor
