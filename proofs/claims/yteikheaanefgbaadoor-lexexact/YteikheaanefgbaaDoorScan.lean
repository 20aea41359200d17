/-
  CONTRACT: Scan at every text: its tokens, in new memory, or the place and the error of the first that is wrong; in a world in which the listed variables lie as the program's text lays them; of what was there nothing has turned.
-/
import Derived.Test.YteikheaanefgbaaDoorToken
import Derived.Deep.AppendLies
import Derived.Maps.AppendAt
import Derived.OwnWalk
import Derived.RegionTactic
namespace Go.Proofs.YteikheaanefgbaaDoor
open Go.RowKit

def cellsT (ts : List Tok) : List Value := ts.flatMap fun t => [.int .i64 t.kind, .string ⟨t.text.toArray⟩, .int .i64 t.place]
theorem cellsT_snoc (ts : List Tok) (t : Tok) : cellsT (ts ++ [t]) = cellsT ts ++ [.int .i64 t.kind, .string ⟨t.text.toArray⟩, .int .i64 t.place] := by simp [cellsT]
def ScanQ (r : R) (w : World) (e : Ending) (w' : World) : Prop := Below w.heap.size w w' ∧ (match r with
  | .ok ts => ∃ v, e = .returned (.tuple #[v, .int .i64 0, .int .i64 0]) ∧ w'.ownsRow w.heap.size 32 3 v ts.length (cellsT ts)
  | .bad p er => e = .returned (.tuple #[.slice none 0 0, .int .i64 p, .int .i64 er]))
/-- What Scan answers. -/
def scanR (l : List UInt8) : R := if 4096 < l.length then .bad 4096 4 else sc l 0
def StopAt (l : List UInt8) (p : Nat) : Prop := ∀ h : p < l.length, blkB l[p] = false ∧ comAt l p = false
def ScRel (s : ByteArray) (w : World) (r : R) (v i : Value) (wr : World) : Prop :=
  ∃ (ts : List Tok) (p : Nat), p ≤ s.size ∧ ts.length ≤ p ∧ i = .int .i64 p ∧ Hid (r = (sc s.data.toList p).pre ts) ∧ Hid (StopAt s.data.toList p) ∧ Hid (wr.ownsRow w.heap.size 32 3 v ts.length (cellsT ts)) ∧ Below w.heap.size w wr
theorem own_below {w w' : World} {base : Nat} {e : TypeId} {size : Nat} {v : Value} {n : Nat} {xs : List Value} (h : w.ownsRow base e size v n xs) (hb : Below w.heap.size w w') : w'.ownsRow base e size v n xs :=
  h.kept (row := none) ⟨hb.os, hb.tape, hb.output, hb.size, fun i hi _ => hb.block i hi⟩ (by cases v.ownBlock <;> simp)
theorem own_lt {w : World} {base : Nat} {e : TypeId} {size : Nat} {v : Value} {n : Nat} {xs : List Value} (h : w.ownsRow base e size v n xs) (g : Nat) (hg : w.heap.size ≤ g) : some g ≠ v.ownBlock :=
  fun e => by have := h.lt g e.symm; omega
theorem tok_info : (Tryd.prog.info? 32).map (fun i => (i.zero, i.size, i.bytes)) = some (some (.agg #[.int .i64 0, .string ⟨#[]⟩, .int .i64 0]), 3, 32) := by kernel_rfl

theorem news3 (w : World) (A : Array Value) (t e : TypeId) (a b c : Value) : ∀ j u, [a, b, c][j]? = some u → ((w.alloc (.cells A t)).alloc (.cells #[a, b, c] e)).cell? ((⟨w.heap.size + 1, 0, none⟩ : Addr).add j) = some u := by
  have h := heap_alloc_new (w.alloc (.cells A t)) (.cells #[a, b, c] e)
  rw [show (w.alloc (.cells A t)).heap.size = w.heap.size + 1 by simp] at h
  exact World.news_of_block h

theorem cell_first (w : World) (A B : Array Value) (t e : TypeId) (j : Nat) : ((w.alloc (.cells A t)).alloc (.cells B e)).cell? ⟨w.heap.size, j, none⟩ = A[j]? := by
  have h := heap_alloc_new w (.cells A t)
  have h2 := (Below.heap_alloc (w.alloc (.cells A t)) (.cells B e) w.heap.size (by simp)).trans h
  exact cell_of_row _ w.heap.size j A t (0, 0) h2
theorem skip_to (s : ByteArray) (i : Int) (p q : Nat) (w : World) (hs : s.size ≤ 281474976710656) (hp : p ≤ s.size) (hi : Hid (i = p)) (hq : Hid (skipAt s.data.toList p = q)) :
    Calls Tryd.prog 17 #[.string s, .int .i64 i] w fun e w' => e = .returned (.int .i64 q) ∧ w = w' := by
  rw [hi.out]; exact skip_any s p q w hs hp hq

set_option maxHeartbeats 400000 in
theorem scan_any (s : ByteArray) (r : R) (w : World) (G : Good w) (hs : s.size ≤ 281474976710656) (hr : Hid (scanR s.data.toList = r)) : Calls Tryd.prog 8 #[.string s] w (ScanQ r w) := by
  by_cases hl : 4096 < s.size
  · have hi : (4096 : Int) < (s.size : Int) := by omega
    have HQ : Hid (R.bad 4096 4 = r) := by
      show _ = _
      rw [← hr.out, scanR, len_size, if_pos hl]
    have := HQ.out
    subst this
    go_enter Tryd.func8, Tryd.ntmps8
    go_wp2_with fail
    refine bodyPost_ret (v := .tuple #[.slice none 0 0, .int .i64 4096, .int .i64 4]) (by simp [results, Tryd.results8, go_sem]) rfl ⟨Below.refl _ _, rfl⟩
  · have hi : ¬ (4096 : Int) < (s.size : Int) := by omega
    have hsk := skip_all s.data.toList s.data.toList.length 0 (by omega) (Nat.zero_le _)
    obtain ⟨p0, hp0⟩ : ∃ p, skipAt s.data.toList 0 = p := ⟨_, rfl⟩
    rw [hp0] at hsk
    obtain ⟨k1, k2, k3, k4⟩ := hsk
    have HR : Hid (r = (sc s.data.toList p0).pre []) := by
      show _ = _
      rw [← hr.out, scanR, len_size, if_neg hl, k1, R.pre_nil]
    have HP0 := Lib.hid hp0
    have H4 : Hid (StopAt s.data.toList p0) := k4
    rw [len_size] at k3
    have hsk0 : Calls Tryd.prog 17 #[.string s, .int .i64 0] w fun e w' => e = .returned (.int .i64 p0) ∧ w = w' := skip_any s 0 p0 w hs (Nat.zero_le _) HP0
    have HSK := Lib.hid hsk0
    obtain ⟨i0, hi0, hz0, hz1, hz2⟩ := info_parts tok_info
    have HI0 := Lib.hid hi0
    have HZ0 := Lib.hid hz0
    have HZ1 := Lib.hid hz1
    have HZ2 := Lib.hid hz2
    clear hp0 k1 k4 k2 hr hsk0 hi0 hz0 hz1 hz2
    go_enter Tryd.func8, Tryd.ntmps8
    go_wp2_with (go_at_call 17; refine HSK.out.mono ?_; rintro e w' ⟨rfl, rfl⟩)
    go_loopw [5, 6] (fun v i wr => ScRel s w r v i wr) (fun _ i _ => s.size - (intOf i).toNat)
    case atStart => exact ⟨[], p0, k3, Nat.zero_le _, rfl, HR, H4, World.ownsRow_nil _ _ _ _, Below.refl _ _⟩
    case round =>
      obtain ⟨ts, p, hp, hts, rfl, HRR, HST, HOWN, hb⟩ := hrel
      by_cases hlt : p < s.size
      · obtain ⟨a, x, b, c, hf⟩ := tkOf_form s p (tokAt s.data.toList p)
        have HF := Lib.hid hf
        have Gr := G.below hb
        obtain ⟨hst1, hst2⟩ := HST.out (by rw [len_size]; exact hlt)
        by_cases he : (tokAt s.data.toList p).err = 0
        · have hsc := sc_tok (l := s.data.toList) (by rw [len_size]; exact hlt) hst1 hst2 he
          have hln := tokAt_len (l := s.data.toList) (by rw [len_size]; exact hlt) he
          unfold tkOf at hf
          rw [if_pos he] at hf
          obtain ⟨m, hm⟩ : ∃ m, (tokAt s.data.toList p).len = m := ⟨_, rfl⟩
          obtain ⟨kd, hkd⟩ : ∃ m, (tokAt s.data.toList p).kind = m := ⟨_, rfl⟩
          rw [hm] at hln hsc hf
          rw [hkd] at hsc hf
          simp only [tkV, Value.tuple.injEq, Array.mk.injEq, List.cons.injEq, Value.agg.injEq, Value.int.injEq, Value.string.injEq, and_true, true_and] at hf
          obtain ⟨⟨rfl, hx, rfl⟩, rfl⟩ := hf
          rw [len_size] at hln
          have hxl : x.size = m := by rw [← hx, ← len_size, cut_extract, List.length_take, List.length_drop, len_size]; omega
          have hxt : x = ⟨((s.data.toList.drop p).take m).toArray⟩ := Go.WideShapes.bytes_inj (by rw [← hx, cut_extract, show p + m - p = m by omega])
          have HSC := Lib.hid hsc
          have HXT := Lib.hid hxt
          have HXL := Lib.hid hxl
          clear hsc hx hxt hm hkd he hst1 hst2 hxl
          go_wp2_with fail
          refine (tokenAt_any s p kd x p 0 _ hs hlt Gr HF).mono ?_
          rintro e w1 ⟨rfl, hb1⟩
          clear HF Gr
          have HO1 := Lib.hid (own_below HOWN.out hb1)
          have hb2 := hb.trans (hb1.mono hb.size)
          go_wp2_with (at_builtin; refine Hid.out ?_)
          refine Lib.hid ?_
          refine wpList_append_lies _ rfl (.tmp 28) (.tmp 30) _ rfl w.heap.size 32 i0 _ 3 32 Tryd.underlying23 HI0.out HZ0.out HZ1.out HZ2.out rfl (by omega) u5 ts.length (cellsT ts) rfl (by exact (HO1.out.alloc _).alloc _) ⟨w1.heap.size + 1, 0, none⟩ 1 1 [.int .i64 kd, .string x, .int .i64 p] rfl rfl (by exact news3 w1 _ 32 32 _ _ _) (by simp [Value.oneCell']) (by omega) (by simp only [maxLen]; omega) (by omega) (by simp; have := hb2.size; omega) (w1.heap.size + 2) (by simp) ?_
          intro g cap w2 hown2 hg2 hat2 hlt2
          have hne := own_lt HOWN.out w1.heap.size hb1.size
          have hcx : w2.cell? ⟨w1.heap.size, 1, none⟩ = some (.string x) := by
            rw [hg2.cell_far ⟨w1.heap.size, 1, none⟩ (by simp; omega) hne, cell_first]; rfl
          have hb3 : Below w.heap.size w w2 := ((hb2.alloc hb2.size _).alloc (by simp; have := hb2.size; omega) _).grown hg2 (by simp; have := hb2.size; omega) (fun k hk => (HOWN.out.lt k hk).1)
          rw [HXT.out] at hown2
          have hown3 : w2.ownsRow w.heap.size 32 3 (.slice (some ⟨g, 0, none⟩) (ts.length + 1) cap) (ts ++ [Tok.mk kd ((s.data.toList.drop p).take m) p]).length (cellsT (ts ++ [Tok.mk kd ((s.data.toList.drop p).take m) p])) := by
            rw [cellsT_snoc, List.length_append]; exact hown2
          have HO3 := Lib.hid hown3
          clear hown2 hown3 hg2 hat2 hne
          obtain ⟨q, hq⟩ : ∃ q, skipAt s.data.toList (p + m) = q := ⟨_, rfl⟩
          have hsk := skip_all s.data.toList s.data.toList.length (p + m) (by omega) (by rw [len_size]; omega)
          rw [hq] at hsk
          obtain ⟨k1, k2, k3', k4⟩ := hsk
          rw [len_size] at k3'
          have HQ := Lib.hid hq
          have HST2 : Hid (StopAt s.data.toList q) := k4
          have HR2 : Hid (r = (sc s.data.toList q).pre (ts ++ [Tok.mk kd ((s.data.toList.drop p).take m) p])) := by
            show _ = _
            rw [HRR.out, HSC.out, R.pre_pre, k1]
          have HPM : Hid ((p : Int) + (x.size : Int) = ((p + m : Nat) : Int)) := by
            show _ = _
            have := HXL.out
            omega
          have hxb : x.size ≤ 4096 := by have := HXL.out; omega
          clear hq k1 k4
          go_wp2_with (go_at_call 17; refine (skip_to s _ (p + m) q _ hs hln.2 HPM HQ).mono ?_; rintro e w' ⟨rfl, rfl⟩)
          go_roundw
          case rel => exact ⟨_, q, k3', by rw [List.length_append]; simp; omega, rfl, HR2, HST2, HO3, hb3⟩
          case measure => simp [intOf]; omega
        · have hsc := sc_bad (l := s.data.toList) (by rw [len_size]; exact hlt) hst1 hst2 he
          unfold tkOf at hf
          rw [if_neg he] at hf
          obtain ⟨er, her⟩ : ∃ er, (tokAt s.data.toList p).err = er := ⟨_, rfl⟩
          rw [her] at hsc hf he
          simp only [tkV, Value.tuple.injEq, Array.mk.injEq, List.cons.injEq, Value.agg.injEq, Value.int.injEq, Value.string.injEq, and_true, true_and] at hf
          obtain ⟨⟨rfl, rfl, rfl⟩, rfl⟩ := hf
          have HR2 : Hid (R.bad p er = r) := by
            show _ = _
            rw [HRR.out, hsc]; rfl
          have := HR2.out
          subst this
          have hne : ((er : Int) != 0) = true := by simpa using he
          clear hsc her he hst1 hst2 HRR
          go_wp2_with fail
          refine (tokenAt_any s p 0 ⟨#[]⟩ 0 er _ hs hlt Gr HF).mono ?_
          rintro e w1 ⟨rfl, hb1⟩
          clear HF Gr
          have hb2 := hb.trans (hb1.mono hb.size)
          go_wp2_with fail
          refine bodyPost_ret (v := .tuple #[.slice none 0 0, .int .i64 p, .int .i64 er]) (by simp [results, Tryd.results8, go_sem]) rfl ⟨hb2.alloc hb2.size _, rfl⟩
      · have HR2 : Hid (R.ok ts = r) := by
          show _ = _
          rw [HRR.out, sc_end (by rw [len_size]; omega)]; simp [R.pre]
        have := HR2.out
        subst this
        clear HRR
        go_wp2_with fail
        refine bodyPost_ret (v := .tuple #[u5, .int .i64 0, .int .i64 0]) (by simp [results, Tryd.results8, go_sem]) rfl ⟨hb, u5, rfl, HOWN.out⟩

end Go.Proofs.YteikheaanefgbaaDoor
