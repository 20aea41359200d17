/-
  CONTRACT: Links of package kind: the places of the links, in new memory. Of what was there nothing has turned.
-/
import Derived.Test.YtjgmhkplgenieaaDoorElem
namespace Go.Proofs.YtjgmhkplgenieaaDoor
open Go.RowKit

theorem KeysIn.below {w w' : World} (h : KeysIn w) {B : Nat} (hb : Below B w w') (hB : w.heap.size ≤ B) : KeysIn w' := by
  obtain ⟨t, fr, hg⟩ := h
  have h0 : 0 < w.heap.size := (Array.getElem?_eq_some_iff.1 hg).1
  exact ⟨t, fr, (hb.block 0 (by omega)).trans hg⟩
theorem KeysIn.alloc {w : World} (h : KeysIn w) (o : Obj) : KeysIn (w.alloc o) := h.below ((Below.refl w.heap.size w).alloc (Nat.le_refl _) o) (Nat.le_refl _)

def intsOf (l : List Nat) : List Value := l.map fun (k : Nat) => .int .i64 (k : Int)
theorem int_info : (Tryd.prog.info? 3).map (fun i => (i.zero, i.size, i.bytes)) = some (some (.int .i64 0), 1, 8) := by kernel_rfl
theorem own_below {w w' : World} {base : Nat} {e : TypeId} {size : Nat} {v : Value} {n : Nat} {xs : List Value} (h : w.ownsRow base e size v n xs) (hb : Below w.heap.size w w') : w'.ownsRow base e size v n xs :=
  h.kept (row := none) ⟨hb.os, hb.tape, hb.output, hb.size, fun i hi _ => hb.block i hi⟩ (by cases v.ownBlock <;> simp)
theorem own_lt {w : World} {base : Nat} {e : TypeId} {size : Nat} {v : Value} {n : Nat} {xs : List Value} (h : w.ownsRow base e size v n xs) (g : Nat) (hg : w.heap.size ≤ g) : some g ≠ v.ownBlock :=
  fun e => by have := h.lt g e.symm; omega
theorem news1 (w : World) (A : Array Value) (t e : TypeId) (a : Value) : ∀ j u, [a][j]? = some u → ((w.alloc (.cells A t)).alloc (.cells #[a] e)).cell? ((⟨w.heap.size + 1, 0, none⟩ : Addr).add j) = some u := by
  have h := heap_alloc_new (w.alloc (.cells A t)) (.cells #[a] e)
  rw [show (w.alloc (.cells A t)).heap.size = w.heap.size + 1 by simp] at h
  exact World.news_of_block h
theorem news0 (w : World) (e : TypeId) (a : Value) : ∀ j u, [a][j]? = some u → (w.alloc (.cells #[a] e)).cell? ((⟨w.heap.size, 0, none⟩ : Addr).add j) = some u := by
  have h := heap_alloc_new w (.cells #[a] e)
  exact World.news_of_block h
def LRel (w : World) (fs : List Fld) (m : Nat) (v i : Value) (wr : World) : Prop :=
  ∃ (k q : Nat), k ≤ m ∧ q ≤ k ∧ i = .int .i64 k ∧ Hid ((links fs k).length = q) ∧ Hid (wr.ownsRow w.heap.size 3 1 v q (intsOf (links fs k))) ∧ Below w.heap.size w wr
def LinksQ (fs : List Fld) (m : Nat) (w : World) (e : Ending) (w' : World) : Prop := ∃ v, e = .returned v ∧ w'.ownsRow w.heap.size 3 1 v (links fs m).length (intsOf (links fs m)) ∧ Below w.heap.size w w'

set_option maxHeartbeats 400000 in
theorem links_any (sn : ByteArray) (A : Option Addr) (c m : Nat) (fs : List Fld) (w : World) (hK : KeysIn w) (hR : FR w A fs) (hm : Hid (fs.length = m)) (hl : m ≤ 1099511627776) :
    Calls Tryd.prog 40 #[.agg #[.string sn, .slice A m c]] w (LinksQ fs m w) := by
  obtain ⟨i0, hi0, hz0, hz1, hz2⟩ := info_parts int_info
  have HI0 := Lib.hid hi0
  have HZ0 := Lib.hid hz0
  have HZ1 := Lib.hid hz1
  have HZ2 := Lib.hid hz2
  have HR := Lib.hid hR
  have HK := Lib.hid hK
  clear hi0 hz0 hz1 hz2 hR hK
  go_enter Tryd.func40, Tryd.ntmps40
  go_wp2_with fail
  go_loopw [3, 11] (fun v i wr => LRel w fs m v i wr) (fun _ i _ => m - (intOf i).toNat)
  case atStart => exact ⟨0, 0, Nat.zero_le _, Nat.le_refl _, rfl, rfl, World.ownsRow_nil _ _ _ _, (Below.refl _ _).alloc (Nat.le_refl _) _⟩
  case round =>
    obtain ⟨k, q, hk, hq, rfl, HQ, HO, hb⟩ := hrel
    by_cases hlt : k < m
    · obtain ⟨b, o, rfl, hg, hcs⟩ := (HR.out.below hb (Nat.le_refl _)) (by have := hm.out; omega)
      obtain ⟨s, hs⟩ : ∃ s, fs[k]? = some s := ⟨_, List.getElem?_eq_getElem (by have := hm.out; omega)⟩
      obtain ⟨c0, c1⟩ := hcs k s hs
      have hlk : linkB fs k = (elemO s.typ).isSome := by unfold linkB; rw [hs]
      have hkr := HK.out.below hb (Nat.le_refl _)
      have HKR := Lib.hid (hkr.alloc (.cells #[.string s.name, .string s.typ] 62))
      have HCS := Lib.hid hcs
      have HS := Lib.hid hs
      clear hcs hs hkr
      obtain ⟨fn, ft⟩ := s
      simp only at c0 c1 hlk HKR
      cases he : elemO ft with
      | none =>
        have HE := Lib.hid he
        have hn := links_succ_no (hlk.trans (by rw [he]; rfl))
        have HN := Lib.hid hn
        clear hlk he hn
        go_wp2_with (go_at_call 49; refine (elem_any _ none _ HKR HE).mono ?_; rintro e w' ⟨rfl, rfl⟩; unfold elemV)
        go_roundw
        case rel => exact ⟨k + 1, q, by omega, by omega, by go_num, by show _ = _; rw [HN.out]; exact HQ.out, by show World.ownsRow _ _ _ _ _ _ _; rw [HN.out]; exact HO.out.alloc _, hb.alloc hb.size _⟩
        case measure => simp [intOf]; omega
      | some nm =>
        have HE := Lib.hid he
        have hn := links_succ_yes (hlk.trans (by rw [he]; rfl))
        have HN := Lib.hid hn
        clear hlk he hn
        go_wp2_with (first | (go_at_call 49; refine (elem_any _ (some nm) _ HKR HE).mono ?_; rintro e w' ⟨rfl, rfl⟩; unfold elemV) | (at_builtin; refine Hid.out ?_))
        refine Lib.hid ?_
        refine wpList_append_lies _ rfl (.tmp 23) (.tmp 25) _ rfl w.heap.size 3 i0 _ 1 8 Tryd.underlying24 HI0.out HZ0.out HZ1.out HZ2.out rfl (by omega) u3 q (intsOf (links fs k)) rfl (by exact (HO.out.alloc _).alloc _) ⟨wr.heap.size + 1, 0, none⟩ 1 1 [.int .i64 k] rfl rfl (by exact news1 wr _ 62 3 _) (by simp [Value.oneCell']) (by omega) (by simp only [maxLen]; omega) (by omega) (by simp; have := hb.size; omega) (wr.heap.size + 2) (by simp) ?_
        intro g2 cap w2 hown2 hg2 hat2 hlt2
        have hb3 : Below w.heap.size w w2 := ((hb.alloc hb.size _).alloc (by simp; have := hb.size; omega) _).grown hg2 (by simp; have := hb.size; omega) (fun k hk => (HO.out.lt k hk).1)
        have hown3 : w2.ownsRow w.heap.size 3 1 (.slice (some ⟨g2, 0, none⟩) (q + 1) cap) (q + 1) (intsOf (links fs (k + 1))) := by
          rw [HN.out, intsOf, List.map_append]; exact hown2
        have HO3 := Lib.hid hown3
        clear hown2 hown3 hg2 hat2 c0 c1
        go_wp2_with fail
        go_roundw
        case rel => exact ⟨k + 1, q + 1, by omega, by omega, by go_num, by show _ = _; rw [HN.out, List.length_append, HQ.out]; rfl, HO3, hb3⟩
        case measure => simp [intOf]; omega
    · obtain rfl : k = m := by omega
      have HO2 : Hid (wr.ownsRow w.heap.size 3 1 u3 (links fs k).length (intsOf (links fs k))) := by
        show World.ownsRow _ _ _ _ _ _ _
        rw [HQ.out]; exact HO.out
      clear HO
      go_wp2_with fail
      go_ret
      exact ⟨u3, rfl, HO2.out, hb⟩

end Go.Proofs.YtjgmhkplgenieaaDoor
