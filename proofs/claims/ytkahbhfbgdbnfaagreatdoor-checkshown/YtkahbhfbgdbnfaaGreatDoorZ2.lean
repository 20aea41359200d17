/- CONTRACTS: the reader's smallest methods: peek, is, take, misfit, need, needWord, enter, leave. Nobody but the reader's own block has turned. -/
import Derived.Test.YtkahbhfbgdbnfaaGreatDoorZ1
import Derived.StillTailTactics
import Derived.Deep.RegionHeld3
import Derived.RegionDies
import Derived.Deep.RegionWith
import Derived.WalkKit
import Derived.WalkSpells
import Derived.WalkLawsBesides
import Derived.Lib.Hide
import Derived.Below
import Derived.Laws.OwnMore
import Derived.Deep.AppendLies
import Derived.Deep.Draws
import Derived.Maps.AppendAt
import Derived.OwnWalk
import Derived.RegionTactic
import Derived.BigQuiet
import Derived.Deep.QuietTactic
import Derived.IntWalk
set_option maxRecDepth 100000
set_option maxHeartbeats 800000
namespace Go.Proofs.YtkahbhfbgdbnfaaGreatDoor
open Go.Lib (hid)
open Go.RowKit
theorem zk3 (E:Env) (w:World) (i d:Nat) (h:RD E w i d):
 Calls Tryz.prog 133 #[.pointer (some ⟨E.rb,0,none⟩)] w fun e w'=>e= .returned (tokV (E.T i) (E.pl i))∧Below w.heap.size w w':=by
 have hi:=h.ile
 have hz:=h.zle
 have hcap:=h.cap
 have c0:=h.c0
 have c1:=h.c1
 have k0:=h.k0 i hi
 have k1:=h.k1 i hi
 have k2:=h.k2 i hi
 have hlt:(i:Int)<(E.z:Int)+1:=by omega
 have hr:=h.lt
 have hl:=h.llt
 clear h
 unfold tokV
 generalize (E.T i).text.toArray=tx at*
 generalize (E.T i).kind=kd at*
 generalize E.pl i=p at*
 generalize E.rb=rb at*
 generalize E.lb=lb at*
 generalize E.cap=cap at*
 generalize E.z=z at*
 go_enter Tryz.func133,Tryz.ntmps133
 go_wp2_with fail
 go_region
 go_wp2_with fail
 refine bodyPost_ret (v:= .agg #[.int .i64 kd,.string ⟨tx⟩,.int .i64 p]) (by simp [results,Tryz.results133,go_sem]) rfl ⟨rfl,?_⟩
 exact ((Below.refl _ _).alloc (Nat.le_refl _) _).drew
theorem zxn:∀ (k:Int) (s:ByteArray) (p:Int) (w:World),(Instr.field 108 (.agg #[.int .i64 k,.string s,.int .i64 p]) 1).run Tryz.prog w= .ok (.string s) w:=fun _ _ _ _=>by kernel_rfl
theorem zxw:∀ (k:Int) (s:ByteArray) (p:Int) (w:World),(Instr.field 108 (.agg #[.int .i64 k,.string s,.int .i64 p]) 0).run Tryz.prog w= .ok (.int .i64 k) w:=fun _ _ _ _=>by kernel_rfl
theorem zq7:∀ (k:Int) (s:ByteArray) (p:Int) (w:World),(Instr.field 108 (.agg #[.int .i64 k,.string s,.int .i64 p]) 2).run Tryz.prog w= .ok (.int .i64 p) w:=fun _ _ _ _=>by kernel_rfl
theorem list_ext {l:List UInt8} {s:ByteArray} (h:l=s.data.toList):(⟨l.toArray⟩:ByteArray)=s:=by rw [h]
theorem list_ne {l:List UInt8} {s:ByteArray} (h:¬ l=s.data.toList):(l==s.toList)=false:=by
 rw [ByteArray.toList_eq];simpa using h
theorem is_yes (E:Env) (w:World) (i d:Nat) (s:ByteArray) (h:RD E w i d) (ht:Hid ((E.T i).text=s.data.toList)):
 Calls Tryz.prog 126 #[.pointer (some ⟨E.rb,0,none⟩),.string s] w fun e w'=>e= .returned (.bool true)∧Below w.heap.size w w':=by
 have HP:=hid (zk3 E w i d h)
 clear h
 have hf:=zxn
 go_enter Tryz.func126,Tryz.ntmps126
 go_wp2_with fail
 refine HP.out.mono ?_
 rintro e w' ⟨rfl,hb⟩
 unfold tokV
 rw [list_ext ht.out]
 clear HP
 go_wp2_with fail
 go_ret
 exact ⟨rfl,hb⟩
theorem is_no (E:Env) (w:World) (i d:Nat) (s:ByteArray) (h:RD E w i d) (ht:Hid (¬ (E.T i).text=s.data.toList)):
 Calls Tryz.prog 126 #[.pointer (some ⟨E.rb,0,none⟩),.string s] w fun e w'=>e= .returned (.bool false)∧Below w.heap.size w w':=by
 have HP:=hid (zk3 E w i d h)
 have hn:=list_ne ht.out
 clear h
 have hf:=zxn
 go_enter Tryz.func126,Tryz.ntmps126
 go_wp2_with fail
 refine HP.out.mono ?_
 rintro e w' ⟨rfl,hb⟩
 unfold tokV
 clear HP
 generalize (E.T i).text=tx at*
 go_wp2_with fail
 go_ret
 exact ⟨rfl,hb⟩
def ST (E:Env) (w w':World) (i d:Nat):Prop:=RD E w' i d∧w.grownBy w' (some E.rb)
theorem ST.refl {E:Env} {w:World} {i d:Nat} (h:RD E w i d):ST E w w i d:=⟨h,kb_refl _ _⟩
theorem ST.below {E:Env} {w0 w w':World} {i d:Nat} (h:ST E w0 w i d) (hb:Below w.heap.size w w'):ST E w0 w' i d:=⟨h.1.below hb,h.2.trans (zqe hb)⟩
theorem ST.trans {E:Env} {w0 w w':World} {i d i' d':Nat} (h:ST E w0 w i d) (h':ST E w w' i' d'):ST E w0 w' i' d':=⟨h'.1,h.2.trans h'.2⟩
theorem ST.setI {E:Env} {w0 w:World} {i d:Nat} (h:ST E w0 w i d) (i':Nat) (hi:i'≤E.z):ST E w0 (w.setCell ⟨E.rb,1,none⟩ (.int .i64 i')) i' d:=⟨h.1.setI i' hi,h.2.trans (zxf w ⟨E.rb,1,none⟩ _)⟩
theorem ST.setD {E:Env} {w0 w:World} {i d:Nat} (h:ST E w0 w i d) (d':Nat) (hd:d'≤40):ST E w0 (w.setCell ⟨E.rb,2,none⟩ (.int .i64 d')) i d':=⟨h.1.setD d' hd,h.2.trans (zxf w ⟨E.rb,2,none⟩ _)⟩
theorem b1 (w:World) (o:Obj):Below w.heap.size w (w.alloc o):=(Below.refl _ _).alloc (Nat.le_refl _) _
theorem zke (E:Env) (w:World) (i d:Nat) (s:ByteArray) (h:RD E w i d) (ht:Hid ((E.T i).text=s.data.toList)) (hs:Hid (s.data.toList≠ [])):
 Calls Tryz.prog 89 #[.pointer (some ⟨E.rb,0,none⟩),.string s] w fun e w'=>e= .returned (.bool true)∧ST E w w' (i+1) d:=by
 have HI:=hid (is_yes E w i d s h ht)
 have hlt:=zqn h.sent hs.out ht.out
 have hz:=h.zle
 have H:=hid h
 clear h ht
 go_enter Tryz.func89,Tryz.ntmps89
 go_wp2_with fail
 refine HI.out.mono ?_
 rintro e w' ⟨rfl,hb⟩
 clear HI
 have R:=H.out.below hb
 have c1:=R.c1
 have c2:=R.fr 1
 have HR:=hid R
 clear R
 go_wp2_with fail
 go_ret
 refine ⟨rfl,?_⟩
 have:=(ST.below (ST.refl H.out) hb).setI (i+1) (by omega)
 exact this
theorem zk5 (E:Env) (w:World) (i d:Nat) (s:ByteArray) (h:RD E w i d) (ht:Hid (¬ (E.T i).text=s.data.toList)):
 Calls Tryz.prog 89 #[.pointer (some ⟨E.rb,0,none⟩),.string s] w fun e w'=>e= .returned (.bool false)∧Below w.heap.size w w':=by
 have HI:=hid (is_no E w i d s h ht)
 clear h ht
 go_enter Tryz.func89,Tryz.ntmps89
 go_wp2_with fail
 refine HI.out.mono ?_
 rintro e w' ⟨rfl,hb⟩
 clear HI
 go_wp2_with fail
 go_ret
 exact ⟨rfl,hb⟩
theorem z1h (E:Env) (w:World) (i d:Nat) (h:RD E w i d):
 Calls Tryz.prog 93 #[.pointer (some ⟨E.rb,0,none⟩)] w fun e w'=>e= .returned (.agg #[.int .i64 (E.pl i),.int .i64 1])∧Below w.heap.size w w':=by
 have HP:=hid (zk3 E _ i d (h.below (b1 w (.cells #[.int .i64 0,.int .i64 0] 67))))
 have hf:=zq7
 clear h
 go_enter Tryz.func93,Tryz.ntmps93
 go_wp2_with fail
 refine HP.out.mono ?_
 rintro e w' ⟨rfl,hb⟩
 unfold tokV
 clear HP
 have hb1:=(b1 w (.cells #[.int .i64 0,.int .i64 0] 67)).trans (hb.mono (by simp))
 have hc:w'.cell? ⟨w.heap.size,0,none⟩=some (.int .i64 0):=(hb.cell (p:=⟨w.heap.size,0,none⟩) (by simp)).trans (by simp [go_sem])
 have hc1:w'.cell? ⟨w.heap.size,1,none⟩=some (.int .i64 0):=(hb.cell (p:=⟨w.heap.size,1,none⟩) (by simp)).trans (by simp [go_sem])
 have hfz:w'.frozen? ⟨w.heap.size,0,none⟩=false:=(hb.frozen (p:=⟨w.heap.size,0,none⟩) (by simp)).trans (by simp [go_sem])
 have hfz1:w'.frozen? ⟨w.heap.size,1,none⟩=false:=(hb.frozen (p:=⟨w.heap.size,1,none⟩) (by simp)).trans (by simp [go_sem])
 clear hb
 go_wp2_with fail
 refine bodyPost_ret (v:= .agg #[.int .i64 (E.pl i),.int .i64 1]) (by simp [results,Tryz.results93,go_sem,hc,hc1]) rfl ⟨rfl,?_⟩
 exact (hb1.setCell (p:=⟨w.heap.size,0,none⟩) (Nat.le_refl _) _).setCell (p:=⟨w.heap.size,1,none⟩) (Nat.le_refl _) _
def Q {α:Type} (E:Env) (w:World) (d:Nat) (V:α→Value→World→Prop) (r:Res α) (e:Ending) (w':World):Prop:=match r with
 | .ok a j=>∃ v,e= .returned v∧V a v w'∧ST E w w' j d
 | .bad j er=>e=faultE (E.pl j) er∧w.grownBy w' (some E.rb)
def VT (E:Env) (p:Nat) (v:Value) (_:World):Prop:=v=tokV (E.T p) (E.pl p)
def VW (E:Env) (p:Nat×List UInt8) (v:Value) (_:World):Prop:=v=tokV (E.T p.1) (E.pl p.1)∧(E.T p.1).text=p.2
def VS (s:List UInt8) (v:Value) (_:World):Prop:=v= .string ⟨s.toArray⟩
def VN (E:Env) (lo:Nat) (t:Tree) (v:Value) (w':World):Prop:=∃ b,v=zzd b∧NodeAt (fun x=>lo≤x) E.pl w' b t
def VL (E:Env) (lo:Nat) (ts:List Tree) (v:Value) (w':World):Prop:=ts.length≤5001∧KidsIn (fun x=>lo≤x) E.pl w' v ts.length ts
theorem then_cases {α β:Type} {x:Option (Res α)} {f:α→Nat→Option (Res β)} {r:Res β} (h:then_ x f=some r):(∃ j e,x=some (.bad j e)∧r= .bad j e)∨(∃ a j,x=some (.ok a j)∧f a j=some r):=by
 cases x with
 |none=>cases h
 |some x=>cases x with
  |ok a j=>exact .inr ⟨a,j,rfl,h⟩
  |bad j e=>exact .inl ⟨j,e,rfl,(Option.some.inj h).symm⟩
theorem zzc {α β:Type} {T:Nat→AT} {c:zxl} {p:Pr α} {f:α→Pr β} {i:Nat} {r:Res β} (h:runW T c (p.bind f) i=some r):(∃ j e,runW T c p i=some (.bad j e)∧r= .bad j e)∨(∃ a j,runW T c p i=some (.ok a j)∧runW T c (f a) j=some r):=by
 rw [zvl] at h;exact then_cases h
theorem zxx {α:Type} {T:Nat→AT} {c:zxl} {nt:NT} {d:Nat} {f:List Tree→Pr α} {i:Nat} {r:Res α} (h:runW T c (.call nt d f) i=some r):(∃ j e,c nt d i=some (.bad j e)∧r= .bad j e)∨(∃ a j,c nt d i=some (.ok a j)∧runW T c (f a) j=some r):=by
 unfold runW at h
 cases hx:c nt d i with
 |none=>rw [hx] at h;cases h
 |some x=>cases x with
  |ok a j=>rw [hx] at h;exact .inr ⟨a,j,rfl,h⟩
  |bad j e=>rw [hx] at h;exact .inl ⟨j,e,rfl,(Option.some.inj h).symm⟩
theorem run_need_yes {T:Nat→AT} {c:zxl} {s:List UInt8} {i:Nat} (h:(T i).text=s):runW T c (need s) i=some (.ok i (i+1)):=by simp only [need,runW,if_pos h]
theorem run_need_no {T:Nat→AT} {c:zxl} {s:List UInt8} {i:Nat} (h:¬ (T i).text=s):runW T c (need s) i=some (.bad i 1):=by simp only [need,runW,if_neg h]
theorem far {rb:Nat} {w w':World} (hg:w.grownBy w' (some rb)) {b:Nat} (hlt:b<w.heap.size) (hne:b≠rb) (o:Nat):w'.cell? ⟨b,o,none⟩=w.cell? ⟨b,o,none⟩:=hg.cell_far ⟨b,o,none⟩ hlt (fun e=>hne (Option.some.inj e))
theorem farF {rb:Nat} {w w':World} (hg:w.grownBy w' (some rb)) {b:Nat} (hlt:b<w.heap.size) (hne:b≠rb) (o:Nat):w'.frozen? ⟨b,o,none⟩=w.frozen? ⟨b,o,none⟩:=hg.frozen_far ⟨b,o,none⟩ hlt (fun e=>hne (Option.some.inj e))
structure TokAt (w:World) (b:Nat) (k:Int) (s:ByteArray) (p:Int):Prop where
 lt:b<w.heap.size
 c0:w.cell? ⟨b,0,none⟩=some (.int .i64 k)
 c1:w.cell? ⟨b,1,none⟩=some (.string s)
 c2:w.cell? ⟨b,2,none⟩=some (.int .i64 p)
 f0:w.frozen? ⟨b,0,none⟩=false
 f1:w.frozen? ⟨b,1,none⟩=false
 f2:w.frozen? ⟨b,2,none⟩=false
theorem TokAt.new (w:World) (k:Int) (s:ByteArray) (p:Int):TokAt (w.alloc (.cells #[.int .i64 k,.string s,.int .i64 p] 108)) w.heap.size k s p:=by
 refine ⟨by simp,?_,?_,?_,?_,?_,?_⟩<;>simp [go_sem]
theorem TokAt.kept {w w':World} {b rb:Nat} {k:Int} {s:ByteArray} {p:Int} (h:TokAt w b k s p) (hg:w.grownBy w' (some rb)) (hne:b≠rb):TokAt w' b k s p:=
 ⟨Nat.lt_of_lt_of_le h.lt hg.size,(far hg h.lt hne _).trans h.c0,(far hg h.lt hne _).trans h.c1,(far hg h.lt hne _).trans h.c2,(farF hg h.lt hne _).trans h.f0,(farF hg h.lt hne _).trans h.f1,(farF hg h.lt hne _).trans h.f2⟩
theorem TokAt.below {w w':World} {b:Nat} {k:Int} {s:ByteArray} {p:Int} (h:TokAt w b k s p) (hb:Below w.heap.size w w'):TokAt w' b k s p:=
 h.kept (rb:=b+1) (zqe hb) (by omega)
structure PtrAt (w:World) (b:Nat) (x:Option Addr):Prop where
 lt:b<w.heap.size
 c0:w.cell? ⟨b,0,none⟩=some (.pointer x)
 f0:w.frozen? ⟨b,0,none⟩=false
theorem PtrAt.new (w:World) (x:Option Addr):PtrAt (w.alloc (.cells #[.pointer x] 25)) w.heap.size x:=by
 refine ⟨by simp,?_,?_⟩<;>simp [go_sem]
theorem PtrAt.kept {w w':World} {b rb:Nat} {x:Option Addr} (h:PtrAt w b x) (hg:w.grownBy w' (some rb)) (hne:b≠rb):PtrAt w' b x:=
 ⟨Nat.lt_of_lt_of_le h.lt hg.size,(far hg h.lt hne _).trans h.c0,(farF hg h.lt hne _).trans h.f0⟩
theorem PtrAt.below {w w':World} {b:Nat} {x:Option Addr} (h:PtrAt w b x) (hb:Below w.heap.size w w'):PtrAt w' b x:=h.kept (rb:=b+1) (zqe hb) (by omega)
theorem zw3 {a b c:World} {row row':Option Nat} (h:a.grownBy b row) (k:b.grownBy c row') (hr:∀ j,row'=some j→a.heap.size≤j∨row=some j):a.grownBy c row:=
 ⟨k.os.trans h.os,k.tape.trans h.tape,k.output.trans h.output,Nat.le_trans h.size k.size,fun i hi hne=>(k.block i (Nat.lt_of_lt_of_le hi h.size) (fun e=>(hr i e.symm).elim (fun g=>absurd hi (by omega)) (fun g=>hne g.symm))).trans (h.block i hi hne)⟩
theorem ST.set {E:Env} {w0 w:World} {i0 d0 i d:Nat} (R0:RD E w0 i0 d0) (h:ST E w0 w i d) (b o:Nat) (hb:w0.heap.size≤b) (u:Value):ST E w0 (w.setCell ⟨b,o,none⟩ u) i d:=by
 have hr:E.rb≠b:=by have:=R0.lt;omega
 have hl:E.lb≠b:=by have:=R0.llt;omega
 have g:=zxf w ⟨b,o,none⟩ u
 have c:∀ x o',x≠b→(w.setCell ⟨b,o,none⟩ u).cell? ⟨x,o',none⟩=w.cell? ⟨x,o',none⟩:=fun x o' hx=>World.cell?_setCell_other _ _ _ _ (fun e=>hx (congrArg Addr.block e).symm)
 refine ⟨?_,?_⟩
 ·exact { h.1 with lt:=Nat.lt_of_lt_of_le h.1.lt g.size,llt:=Nat.lt_of_lt_of_le h.1.llt g.size,c0:=(c _ _ hr).trans h.1.c0,c1:=(c _ _ hr).trans h.1.c1,c2:=(c _ _ hr).trans h.1.c2,fr:=fun k=>(World.frozen?_setCell _ _ _ _).trans (h.1.fr k),k0:=fun k hk=>(c _ _ hl).trans (h.1.k0 k hk),k1:=fun k hk=>(c _ _ hl).trans (h.1.k1 k hk),k2:=fun k hk=>(c _ _ hl).trans (h.1.k2 k hk),good:=h.1.good.low (zwm g (fun x e=>by have h9:b=x:=Option.some.inj e;have:=R0.good.size;omega) h.1.good.size) }
 ·exact zw3 h.2 g (fun j e=> .inl (by obtain rfl:=Option.some.inj e;exact hb))
theorem zzm (E:Env) (w:World) (i d:Nat) (s:ByteArray) (c:zxl) (r:Res Nat) (h:RD E w i d) (hs:Hid (s.data.toList≠ [])) (hr:Hid (runW E.T c (need s.data.toList) i=some r)):
 Calls Tryz.prog 128 #[.pointer (some ⟨E.rb,0,none⟩),.string s] w (Q E w d (VT E) r):=by
 have R0:=h.below (b1 w (.cells #[.int .i64 0,.string ⟨#[]⟩,.int .i64 0] 108))
 have HP:=hid (zk3 E _ i d R0)
 have H0:=hid h
 have H:=hid R0
 clear h R0
 by_cases ht:(E.T i).text=s.data.toList
 ·have HQ:Hid (r= .ok i (i+1)):=by
   have:=hr.out;rw [run_need_yes ht] at this;exact (Option.some.inj this).symm
  have HT:=hid ht
  clear ht hr
  go_enter Tryz.func128,Tryz.ntmps128
  go_wp2_with fail
  refine HP.out.mono ?_
  rintro e w1 ⟨rfl,hb1⟩
  clear HP
  unfold tokV
  have S1:=((ST.below (ST.refl H0.out) (b1 w _)).below hb1).below (b1 w1 (.cells #[.int .i64 (E.T i).kind,.string ⟨(E.T i).text.toArray⟩,.int .i64 (E.pl i)] 108))
  have HT1:=hid (zke E _ i d s S1.1 HT hs)
  have A1:=((TokAt.new w 0 ⟨#[]⟩ 0).below hb1).below (b1 w1 (.cells #[.int .i64 (E.T i).kind,.string ⟨(E.T i).text.toArray⟩,.int .i64 (E.pl i)] 108))
  have A2:=TokAt.new w1 (E.T i).kind ⟨(E.T i).text.toArray⟩ (E.pl i)
  have hs1:w.heap.size<w1.heap.size:=by have:=hb1.size;simp at this;omega
  have hr1:=H0.out.lt
  have q0:=(hb1.cell (p:=⟨w.heap.size,0,none⟩) (by simp)).trans (TokAt.new w 0 ⟨#[]⟩ 0).c0
  have HA1:=hid A1
  have HA2:=hid A2
  have HS1:=hid S1
  clear A1 A2 S1 hb1 q0
  go_wp2_with fail
  refine HT1.out.mono ?_
  rintro e w2 ⟨rfl,hs2⟩
  clear HT1
  have A1:=HA1.out.kept hs2.2 (by omega)
  have A2:=HA2.out.kept hs2.2 (by omega)
  have S2:=hid (HS1.out.trans hs2)
  obtain ⟨l1,c0,c1,c2,f0,f1,f2⟩:=A1
  obtain ⟨l2,c3,c4,c5,-,-,-⟩:=A2
  clear hs2 HA1 HA2 HS1
  have hne:¬ w1.heap.size=w.heap.size:=by omega
  go_wp2_with fail
  refine bodyPost_ret (v:=tokV (E.T i) (E.pl i)) ?_ rfl ?_
  ·rw [show (tokV (E.T i) (E.pl i))= .agg #[.int .i64 (E.T i).kind,.string ⟨(E.T i).text.toArray⟩,.int .i64 (E.pl i)] from rfl]
   simp [results,Tryz.results128,go_sem,c0,c1,c2]
  ·rw [HQ.out]
   exact ⟨_,rfl,rfl,ST.set H0.out (ST.set H0.out (ST.set H0.out S2.out _ _ (Nat.le_refl _) _) _ _ (Nat.le_refl _) _) _ _ (Nat.le_refl _) _⟩
 ·have HQ:Hid (r= .bad i 1):=by
   have:=hr.out;rw [run_need_no ht] at this;exact (Option.some.inj this).symm
  have HT:=hid ht
  clear ht hr
  go_enter Tryz.func128,Tryz.ntmps128
  go_wp2_with fail
  refine HP.out.mono ?_
  rintro e w1 ⟨rfl,hb1⟩
  clear HP
  unfold tokV
  have S1:=((ST.below (ST.refl H0.out) (b1 w _)).below hb1).below (b1 w1 (.cells #[.int .i64 (E.T i).kind,.string ⟨(E.T i).text.toArray⟩,.int .i64 (E.pl i)] 108))
  have HT1:=hid (zk5 E _ i d s S1.1 HT)
  have HS1:=hid S1
  clear S1 hb1
  go_wp2_with fail
  refine HT1.out.mono ?_
  rintro e w2 ⟨rfl,hb2⟩
  clear HT1
  have S2:=HS1.out.below hb2
  have HM:=hid (z1h E _ i d S2.1)
  have HS2:=hid S2
  clear S2 hb2
  go_wp2_with fail
  refine HM.out.mono ?_
  rintro e w3 ⟨rfl,hb3⟩
  clear HM
  go_wp2_with fail
  refine ⟨rfl,?_⟩
  rw [HQ.out]
  exact ⟨rfl,(HS2.out.below hb3).2⟩
theorem run_word_yes {T:Nat→AT} {c:zxl} {i:Nat} (h:(T i).kind=1):runW T c word i=some (.ok (i,(T i).text) (i+1)):=by simp only [word,runW,if_pos h]
theorem run_word_no {T:Nat→AT} {c:zxl} {i:Nat} (h:¬ (T i).kind=1):runW T c word i=some (.bad i 1):=by simp only [word,runW,if_neg h]
theorem zki (E:Env) (w:World) (i d:Nat) (c:zxl) (r:Res (Nat×List UInt8)) (h:RD E w i d) (hr:Hid (runW E.T c word i=some r)):
 Calls Tryz.prog 127 #[.pointer (some ⟨E.rb,0,none⟩)] w (Q E w d (VW E) r):=by
 have R0:=h.below (b1 w (.cells #[.int .i64 0,.string ⟨#[]⟩,.int .i64 0] 108))
 have HP:=hid (zk3 E _ i d R0)
 have H0:=hid h
 clear h R0
 by_cases ht:(E.T i).kind=1
 ·have HQ:Hid (r= .ok (i,(E.T i).text) (i+1)):=by
   have:=hr.out;rw [run_word_yes ht] at this;exact (Option.some.inj this).symm
  have hlt:=lt_kind H0.out.sent (by decide) ht
  have hz:=H0.out.zle
  have HT:=hid ht
  clear ht hr
  go_enter Tryz.func127,Tryz.ntmps127
  go_wp2_with fail
  refine HP.out.mono ?_
  rintro e w1 ⟨rfl,hb1⟩
  clear HP
  unfold tokV
  rw [HT.out]
  have S1:=((ST.below (ST.refl H0.out) (b1 w _)).below hb1).below (b1 w1 (.cells #[.int .i64 1,.string ⟨(E.T i).text.toArray⟩,.int .i64 (E.pl i)] 108))
  have A1:=((TokAt.new w 0 ⟨#[]⟩ 0).below hb1).below (b1 w1 (.cells #[.int .i64 1,.string ⟨(E.T i).text.toArray⟩,.int .i64 (E.pl i)] 108))
  have A2:=TokAt.new w1 1 ⟨(E.T i).text.toArray⟩ (E.pl i)
  have hs1:w.heap.size<w1.heap.size:=by have:=hb1.size;simp at this;omega
  have hr1:=H0.out.lt
  have HS1:=hid S1
  obtain ⟨l1,c0,c1,c2,f0,f1,f2⟩:=A1
  obtain ⟨l2,c3,c4,c5,-,-,-⟩:=A2
  have r1:=S1.1.c1
  have r2:=S1.1.fr 1
  clear S1 hb1
  have hne:¬ w1.heap.size=w.heap.size:=by omega
  have hne2:¬ w.heap.size=E.rb:=by omega
  have hne3:¬ w1.heap.size=E.rb:=by omega
  go_wp2_with fail
  refine bodyPost_ret (v:=tokV (E.T i) (E.pl i)) ?_ rfl ?_
  ·rw [show (tokV (E.T i) (E.pl i))= .agg #[.int .i64 (E.T i).kind,.string ⟨(E.T i).text.toArray⟩,.int .i64 (E.pl i)] from rfl,HT.out]
   simp [results,Tryz.results127,go_sem,c0,c1,c2]
  ·rw [HQ.out]
   exact ⟨_,rfl,⟨rfl,rfl⟩,ST.set H0.out (ST.set H0.out (ST.set H0.out (HS1.out.setI (i+1) (by omega)) _ _ (Nat.le_refl _) _) _ _ (Nat.le_refl _) _) _ _ (Nat.le_refl _) _⟩
 ·have HQ:Hid (r= .bad i 1):=by
   have:=hr.out;rw [run_word_no ht] at this;exact (Option.some.inj this).symm
  have hk:(((E.T i).kind:Int) !=1)=true:=by simp;omega
  clear ht hr
  go_enter Tryz.func127,Tryz.ntmps127
  go_wp2_with fail
  refine HP.out.mono ?_
  rintro e w1 ⟨rfl,hb1⟩
  clear HP
  unfold tokV
  have S1:=((ST.below (ST.refl H0.out) (b1 w _)).below hb1).below (b1 w1 (.cells #[.int .i64 (E.T i).kind,.string ⟨(E.T i).text.toArray⟩,.int .i64 (E.pl i)] 108))
  have HM:=hid (z1h E _ i d S1.1)
  have HS2:=hid S1
  obtain ⟨l2,c3,c4,c5,-,-,-⟩:=TokAt.new w1 (E.T i).kind ⟨(E.T i).text.toArray⟩ (E.pl i)
  clear S1 hb1
  go_wp2_with fail
  refine HM.out.mono ?_
  rintro e w3 ⟨rfl,hb3⟩
  clear HM
  go_wp2_with fail
  refine ⟨rfl,?_⟩
  rw [HQ.out]
  exact ⟨rfl,(HS2.out.below hb3).2⟩
theorem run_enter_no {T:Nat→AT} {c:zxl} {s:List UInt8} {d i:Nat} (h:¬ (T i).text=s):runW T c (zwp d s) i=some (.bad i 1):=by simp only [zwp,runW,if_neg h]
theorem run_enter_deep {T:Nat→AT} {c:zxl} {s:List UInt8} {i:Nat} (h:(T i).text=s):runW T c (zwp 40 s) i=some (.bad i 3):=by simp only [zwp,runW,if_pos h,if_true]
theorem run_enter_yes {T:Nat→AT} {c:zxl} {s:List UInt8} {d i:Nat} (h:(T i).text=s) (hd:¬ d=40):runW T c (zwp d s) i=some (.ok i (i+1)):=by simp only [zwp,runW,if_pos h,if_neg hd]
theorem zj5 (E:Env) (w:World) (i d:Nat) (s:ByteArray) (c:zxl) (r:Res Nat) (h:RD E w i d) (hs:Hid (s.data.toList≠ [])) (hr:Hid (runW E.T c (zwp d s.data.toList) i=some r)):
 Calls Tryz.prog 163 #[.pointer (some ⟨E.rb,0,none⟩),.string s] w (Q E w (d+1) (VT E) r):=by
 have R0:=h.below (b1 w (.cells #[.int .i64 0,.string ⟨#[]⟩,.int .i64 0] 108))
 have H0:=hid h
 have H:=hid R0
 clear h R0
 by_cases ht:(E.T i).text=s.data.toList
 ·have HN:=hid (zzm E _ i d s c (.ok i (i+1)) H.out hs (run_need_yes ht))
  by_cases hd:d=40
  ·have HQ:Hid (r= .bad i 3):=by
    have:=hr.out;rw [hd,run_enter_deep ht] at this;exact (Option.some.inj this).symm
   have hdi:(d:Int)=40:=by omega
   have HD:=hid hdi
   clear ht hr hd hdi
   go_enter Tryz.func163,Tryz.ntmps163
   go_wp2_with fail
   refine HN.out.mono ?_
   rintro e w1 ⟨v,rfl,hv,hst⟩
   obtain rfl:=hv
   clear HN
   unfold tokV
   have S1:=(ST.below (ST.refl H0.out) (b1 w _)).trans hst
   have S2:=S1.below (b1 w1 (.cells #[.int .i64 (E.T i).kind,.string ⟨(E.T i).text.toArray⟩,.int .i64 (E.pl i)] 108))
   have r2:=S2.1.c2
   rw [HD.out] at r2
   obtain ⟨l2,c3,c4,c5,-,-,-⟩:=TokAt.new w1 (E.T i).kind ⟨(E.T i).text.toArray⟩ (E.pl i)
   have HS2:=hid S2
   clear S1 S2 hst
   go_wp2_with fail
   refine ⟨rfl,?_⟩
   rw [HQ.out]
   exact ⟨rfl,HS2.out.2⟩
  ·have HQ:Hid (r= .ok i (i+1)):=by
    have:=hr.out;rw [run_enter_yes ht hd] at this;exact (Option.some.inj this).symm
   have hdi:((d:Int)==40)=false:=by simp;omega
   have hdl:=H0.out.dle
   clear ht hr
   go_enter Tryz.func163,Tryz.ntmps163
   go_wp2_with fail
   refine HN.out.mono ?_
   rintro e w1 ⟨v,rfl,hv,hst⟩
   obtain rfl:=hv
   clear HN
   unfold tokV
   have hr1:=H0.out.lt
   have S1:=(ST.below (ST.refl H0.out) (b1 w _)).trans hst
   have S2:=S1.below (b1 w1 (.cells #[.int .i64 (E.T i).kind,.string ⟨(E.T i).text.toArray⟩,.int .i64 (E.pl i)] 108))
   have r2:=S2.1.c2
   have r3:=S2.1.fr 2
   obtain ⟨l1,c0,c1,c2,f0,f1,f2⟩:=((TokAt.new w 0 ⟨#[]⟩ 0).kept hst.2 (by omega)).below (b1 w1 (.cells #[.int .i64 (E.T i).kind,.string ⟨(E.T i).text.toArray⟩,.int .i64 (E.pl i)] 108))
   obtain ⟨l2,c3,c4,c5,-,-,-⟩:=TokAt.new w1 (E.T i).kind ⟨(E.T i).text.toArray⟩ (E.pl i)
   have HS2:=hid S2
   have hs1:w.heap.size<w1.heap.size:=by have:=hst.2.size;simp at this;omega
   clear S1 S2 hst
   have hne:¬ w1.heap.size=w.heap.size:=by omega
   have hne2:¬ w.heap.size=E.rb:=by omega
   have hne3:¬ w1.heap.size=E.rb:=by omega
   go_wp2_with fail
   refine bodyPost_ret (v:=tokV (E.T i) (E.pl i)) ?_ rfl ?_
   ·rw [show (tokV (E.T i) (E.pl i))= .agg #[.int .i64 (E.T i).kind,.string ⟨(E.T i).text.toArray⟩,.int .i64 (E.pl i)] from rfl]
    simp [results,Tryz.results163,go_sem,c0,c1,c2]
   ·rw [HQ.out]
    exact ⟨_,rfl,rfl,ST.set H0.out (ST.set H0.out (ST.set H0.out (HS2.out.setD (d+1) (by omega)) _ _ (Nat.le_refl _) _) _ _ (Nat.le_refl _) _) _ _ (Nat.le_refl _) _⟩
 ·have HQ:Hid (r= .bad i 1):=by
   have:=hr.out;rw [run_enter_no ht] at this;exact (Option.some.inj this).symm
  have HN:=hid (zzm E _ i d s c (.bad i 1) H.out hs (run_need_no ht))
  clear ht hr
  go_enter Tryz.func163,Tryz.ntmps163
  go_wp2_with fail
  refine HN.out.mono ?_
  rintro e w1 ⟨rfl,hg⟩
  refine ⟨rfl,?_⟩
  rw [HQ.out]
  exact ⟨rfl,(zqe (b1 w _)).trans hg⟩
theorem z0s (E:Env) (w:World) (i d:Nat) (h:RD E w i (d+1)):
 Calls Tryz.prog 165 #[.pointer (some ⟨E.rb,0,none⟩)] w fun e w'=>e= .returned (.tuple #[])∧ST E w w' i d:=by
 have r1:=h.c2
 have r2:=h.fr 2
 have hd:=h.dle
 have H:=hid h
 clear h
 go_enter Tryz.func165,Tryz.ntmps165
 go_wp2_with fail
 refine bodyPost_end (v:= .tuple #[]) (by simp [results,Tryz.results165,go_sem]) rfl ⟨rfl,?_⟩
 have:=(ST.refl H.out).setD d (by omega)
 simpa using this
structure RowAt (w:World) (b:Nat) (op:Int) (name typ:ByteArray) (n p:Int) (kv:Value):Prop where
 lt:b<w.heap.size
 h0:w.cell? ⟨b,0,none⟩=some (.int .i64 op)
 h1:w.cell? ⟨b,1,none⟩=some (.string name)
 h2:w.cell? ⟨b,2,none⟩=some (.string typ)
 h3:w.cell? ⟨b,3,none⟩=some (.int .i64 n)
 h4:w.cell? ⟨b,4,none⟩=some (.int .i64 p)
 h5:w.cell? ⟨b,5,none⟩=some kv
theorem slice_of {w:World} {base:Nat} {e:TypeId} {v:Value} {n:Nat} {xs:List Value} (h:w.ownsRow base e 1 v n xs):∃ A c,v= .slice A n c∧n≤c∧(0<n→∃ g,A=some ⟨g,0,none⟩∧v.ownBlock=some g):=by
 rcases h.2 with ⟨rfl,h0⟩|⟨g,cap,cur,rfl,h1,h2,h3,h4⟩
 ·exact ⟨none,0,by rw [h0],by omega,fun h=>by omega⟩
 ·exact ⟨_,cap,rfl,h3,fun _=>⟨g,rfl,rfl⟩⟩
theorem node_mk {ok ok':Nat→Prop} {pl:Nat→Nat} {w w':World} {v:Value} {n:Nat} {ts:List Tree} {b op:Nat} {name typ:List UInt8} {num:Int} {pos:Nat} (hk:KidsIn ok pl w v n ts) (hb:Below w.heap.size w w') (hr:RowAt w' b op ⟨name.toArray⟩ ⟨typ.toArray⟩ num (pl pos) v) (hbok:ok' b) (hok:∀ x,ok x→x<w.heap.size→ok' x) (hn:n≤6000):NodeAt ok' pl w' b (.mk op name typ num pos ts):=by
 obtain ⟨bs,h1,h2,h3,h4,h5⟩:=hk
 obtain ⟨A,c,hv,hc,hA⟩:=slice_of h1
 subst hv
 have h6:=hr.h5
 rw [←h3] at h6
 refine .mk A c bs hr.lt hbok hr.h0 hr.h1 hr.h2 hr.h3 hr.h4 h6 (by omega) (by omega) (by omega) ?_ ?_
 ·intro k x hx
  have hkn:k<n:=by rw [←h2];exact (List.getElem?_eq_some_iff.1 hx).1
  obtain ⟨g,hg1,hg2⟩:=hA (by omega)
  have hlt:=(h1.lt g hg2).2
  refine ⟨g,hg1,Nat.lt_of_lt_of_le hlt hb.size,hok g (h4 g hg2) hlt,?_⟩
  rw [hb.cell (p:=⟨g,k,none⟩) hlt]
  subst hg1
  rw [h1.cellAt k (by omega)]
  unfold ptrsOf
  rw [List.getElem?_map,hx];rfl
 ·intro k x t hx ht
  exact (h5 k x t hx ht).keep (Keeps.below hb) fun b hb hl=>hok b hb.1 hl
theorem vn_end {E:Env} {w w':World} {b:Nat} {t:Tree} (h:NodeAt (fun x=>w.heap.size<x) E.pl w' b t) (u:Value):VN E w.heap.size t (zzd b) (w'.setCell ⟨w.heap.size,0,none⟩ u):=
 ⟨b,rfl,h.keep (Keeps.set _ _ _ (Nat.lt_irrefl _)) fun _ h _=>Nat.le_of_lt h⟩
def NewQ (op:Int) (name typ:ByteArray) (n p:Int) (kv:Value) (w:World) (e:Ending) (w':World):Prop:=
 e= .returned (zzd w.heap.size)∧Below w.heap.size w w'∧RowAt w' w.heap.size op name typ n p kv
theorem zzz (w:World) (op:Int) (name typ:ByteArray) (n p:Int) (A:Option Addr) (m c:Nat):
 Calls Tryz.prog 55 #[.agg #[.int .i64 op,.string name,.string typ,.int .i64 n,.int .i64 p,.slice A m c]] w (NewQ op name typ n p (.slice A m c) w):=by
 go_enter Tryz.func55,Tryz.ntmps55
 go_wp2_with fail
 refine bodyPost_ret (v:=zzd w.heap.size) (by unfold zzd;simp [results,Tryz.results55,go_sem]) rfl ⟨rfl,?_,?_⟩
 ·exact ((b1 w _).trans ((b1 _ _).mono (by simp)))
 ·refine ⟨by simp;omega,?_,?_,?_,?_,?_,?_⟩<;>simp [go_sem]
theorem run_typ_int {T:Nat→AT} {c:zxl} {i:Nat} (h:(T i).text=kInt):runW T c typ i=some (.ok kInt (i+1)):=by simp only [typ,runW,if_pos h]
theorem run_typ_bool {T:Nat→AT} {c:zxl} {i:Nat} (h0:¬ (T i).text=kInt) (h:(T i).text=kBool):runW T c typ i=some (.ok kBool (i+1)):=by simp only [typ,runW,if_neg h0,if_pos h]
theorem run_typ_else {T:Nat→AT} {c:zxl} {i:Nat} (h0:¬ (T i).text=kInt) (h:¬ (T i).text=kBool):runW T c typ i=runW T c ((need cStar).bind fun _=>word.bind fun p=> .ret (42::p.2)) i:=by simp only [typ,runW,if_neg h0,if_neg h]
theorem pointer_any (s:ByteArray) (w:World) (hs:s.size≤100000):Calls Tryz.prog 162 #[.string s] w fun e w'=>e= .returned (.string ⟨(42::s.data.toList).toArray⟩)∧w=w':=by
 go_enter Tryz.func162,Tryz.ntmps162
 go_wp2_with fail
 go_ret
 refine ⟨congrArg (fun x=>Ending.returned (.string x)) (Go.WideShapes.bytes_inj ?_),rfl⟩
 simp
theorem zvv (E:Env) (w:World) (i d:Nat) (c:zxl) (r:Res (List UInt8)) (h:RD E w i d) (hr:Hid (runW E.T c typ i=some r)):
 Calls Tryz.prog 131 #[.pointer (some ⟨E.rb,0,none⟩)] w (Q E w d VS r):=by
 have H:=hid h
 have hf:=zxn
 clear h
 go_enter Tryz.func131,Tryz.ntmps131
 go_wp2_with fail
 by_cases ht:(E.T i).text=kInt
 ·have HQ:Hid (r= .ok kInt (i+1)):=by
   have:=hr.out;rw [run_typ_int ht] at this;exact (Option.some.inj this).symm
  refine (zke E w i d ⟨#[105,110,116]⟩ H.out ht (hid (by decide))).mono ?_
  rintro e w1 ⟨rfl,hst⟩
  clear ht hr
  go_wp2_with fail
  go_ret
  rw [HQ.out]
  exact ⟨_,rfl,rfl,hst⟩
 ·refine (zk5 E w i d ⟨#[105,110,116]⟩ H.out ht).mono ?_
  rintro e w1 ⟨rfl,hb⟩
  have HT:=hid ht
  have S1:=hid (ST.below (ST.refl H.out) hb)
  clear ht hb
  go_wp2_with fail
  by_cases ht2:(E.T i).text=kBool
  ·have HQ:Hid (r= .ok kBool (i+1)):=by
    have:=hr.out;rw [run_typ_bool HT.out ht2] at this;exact (Option.some.inj this).symm
   refine (zke E w1 i d ⟨#[98,111,111,108]⟩ S1.out.1 ht2 (hid (by decide))).mono ?_
   rintro e w2 ⟨rfl,hst⟩
   have HS:=hid (S1.out.trans hst)
   clear hst ht2 hr HT
   go_wp2_with fail
   go_ret
   rw [HQ.out]
   exact ⟨_,rfl,rfl,HS.out⟩
  ·have HR:Hid (runW E.T c ((need cStar).bind fun _=>word.bind fun p=> .ret (42::p.2)) i=some r):=by
    have:=hr.out;rw [run_typ_else HT.out ht2] at this;exact this
   refine (zk5 E w1 i d ⟨#[98,111,111,108]⟩ S1.out.1 ht2).mono ?_
   rintro e w2 ⟨rfl,hb2⟩
   have S2:=hid (S1.out.below hb2)
   clear hr hb2 HT ht2 S1
   go_wp2_with fail
   rcases zzc HR.out with ⟨j,er,hx,hq⟩|⟨p0,j,hx,hq⟩
   ·exact (zzm E w2 i d ⟨#[42]⟩ c _ S2.out.1 (hid (by decide)) hx).mono fun e w' h=>by obtain ⟨rfl,hg⟩:=h;exact ⟨rfl,by rw [hq];exact ⟨rfl,S2.out.2.trans hg⟩⟩
   refine (zzm E w2 i d ⟨#[42]⟩ c _ S2.out.1 (hid (by decide)) hx).mono ?_
   rintro e w3 ⟨v3,rfl,-,hst⟩
   have S3:=hid (S2.out.trans hst)
   have HR3:=hid hq
   clear hst HR hx hq S2
   go_wp2_with fail
   rcases zzc HR3.out with ⟨j2,er,hx,hq⟩|⟨p,j2,hx,hq⟩
   ·exact (zki E w3 j d c _ S3.out.1 hx).mono fun e w' h=>by obtain ⟨rfl,hg⟩:=h;exact ⟨rfl,by rw [hq];exact ⟨rfl,S3.out.2.trans hg⟩⟩
   refine (zki E w3 j d c _ S3.out.1 hx).mono ?_
   rintro e w4 ⟨v4,rfl,⟨hv,htx⟩,hst⟩
   have S4:=hid (S3.out.trans hst)
   obtain rfl:=hv
   have HQ:Hid (r= .ok (42::p.2) j2):=(Option.some.inj hq).symm
   have hsz:(⟨(E.T p.1).text.toArray⟩:ByteArray).size≤100000:=by
    have:=H.out.text p.1
    show (E.T p.1).text.toArray.size≤100000
    simp;omega
   have HTX:=hid htx
   clear hst htx hx hq HR3 S3
   unfold tokV
   go_wp2_with (go_at_call 162;refine (pointer_any _ _ hsz).mono ?_;rintro e w5 ⟨rfl,rfl⟩)
   go_ret
   rw [HQ.out]
   exact ⟨.string ⟨(42::(E.T p.1).text).toArray⟩,rfl,congrArg (fun l:List UInt8=>Value.string ⟨(42::l).toArray⟩) HTX.out,S4.out⟩
def nilS:Value:= .slice none 0 0
theorem zwh (E:Env) (w:World) (i d op:Nat) (c:zxl) (r:Res Tree) (h:RD E w i d) (_:op<1000) (hr:Hid (runW E.T c (z1m op) i=some r)):
 Calls Tryz.prog 129 #[.pointer (some ⟨E.rb,0,none⟩),.int .i64 op] w (Q E w d (VN E w.heap.size) r):=by
 have H:=hid h
 have hr1:=h.lt
 have R1:=hid (ST.below (ST.refl h) (b1 w (.cells #[.pointer none] 25)))
 clear h
 go_enter Tryz.func129,Tryz.ntmps129
 go_wp2_with fail
 rcases zzc hr.out with ⟨j,er,hx,hq⟩|⟨p,j,hx,hq⟩
 ·exact (zki E _ i d c _ R1.out.1 hx).mono fun e w' h=>by obtain ⟨rfl,hg⟩:=h;exact ⟨rfl,by rw [hq];exact ⟨rfl,R1.out.2.trans hg⟩⟩
 refine (zki E _ i d c _ R1.out.1 hx).mono ?_
 rintro e w1 ⟨v1,rfl,⟨hv,htx⟩,hst⟩
 obtain rfl:=hv
 have S1:=R1.out.trans hst
 have P1:=(PtrAt.new w none).kept hst.2 (by omega)
 have HR1:=hid hq
 clear hx hq hr hst
 unfold tokV
 have S2:=hid (S1.below (b1 w1 (.cells #[.int .i64 (E.T p.1).kind,.string ⟨(E.T p.1).text.toArray⟩,.int .i64 (E.pl p.1)] 108)))
 have P2:=hid (P1.below (b1 w1 (.cells #[.int .i64 (E.T p.1).kind,.string ⟨(E.T p.1).text.toArray⟩,.int .i64 (E.pl p.1)] 108)))
 have A2:=hid (TokAt.new w1 (E.T p.1).kind ⟨(E.T p.1).text.toArray⟩ (E.pl p.1))
 have HTX:=hid htx
 have hs1:w.heap.size<w1.heap.size:=P1.lt
 clear htx S1 P1
 go_wp2_with fail
 generalize w1.alloc (.cells #[.int .i64 (E.T p.1).kind,.string ⟨(E.T p.1).text.toArray⟩,.int .i64 (E.pl p.1)] 108)=wa at*
 obtain ⟨l2,c0,c1,c2,-,-,-⟩:=A2.out
 obtain ⟨l1,q0,f0⟩:=P2.out
 rcases zzc HR1.out with ⟨j2,er,hx,hq⟩|⟨ty,j2,hx,hq⟩
 ·have HX:=hid hx
  have HQ:=hid hq
  clear hx hq HR1
  go_region_dies
  all_goals
   refine (zvv E _ j d c _ (S2.out.1.below (Below.refl _ _).drew) HX).mono ?_
   rintro e w2 ⟨rfl,hg⟩
   exact ⟨rfl,by rw [HQ.out];exact ⟨rfl,S2.out.2.trans ((zqe (Below.refl _ _).drew).trans hg)⟩⟩
 ·have HX:=hid hx
  have HQ:Hid (r= .ok (.mk op p.2 ty 0 p.1 []) j2):=(Option.some.inj hq).symm
  clear hx hq HR1
  go_region_held3 (fun w'=>w'.cell? ⟨w1.heap.size,1,none⟩=some (.string ⟨(E.T p.1).text.toArray⟩)∧w'.cell? ⟨w1.heap.size,2,none⟩=some (.int .i64 (E.pl p.1))) (first|exact ⟨c1,c2⟩|exact ⟨c1',c2'⟩|exact ⟨c1'',c2''⟩|(refine ⟨?_,?_⟩<;>(rw [World.cell?_setCell_other _ _ _ _ (fun h=>by injection h with h1;omega)];assumption))) (first|(go_at_call 131;refine (zvv E _ j d c _ (S2.out.1.below (Below.refl _ _).drew) HX).mono ?_;rintro e w2 ⟨v2,rfl,hv,hst⟩;obtain rfl:=hv;have c1':=(far hst.2 l2 (by omega) 1).trans c1;have c2':=(far hst.2 l2 (by omega) 2).trans c2;have HST:=hid hst;clear hst)|(go_at_call 55;refine (zzz _ _ _ _ _ _ _ _ _).mono ?_;rintro e w3 ⟨rfl,hb3,hrow⟩;have c1'':=(hb3.cell (p:=⟨w1.heap.size,1,none⟩) (Nat.lt_of_lt_of_le l2 HST.out.2.size)).trans c1';have c2'':=(hb3.cell (p:=⟨w1.heap.size,2,none⟩) (Nat.lt_of_lt_of_le l2 HST.out.2.size)).trans c2';have HP3:=((P2.out.below (Below.refl _ _).drew).kept HST.out.2 (by omega)).below hb3;have q3:=HP3.c0;have f3:=HP3.f0;have HB3:=hid hb3;have HROW:=hid hrow;clear hrow hb3 HP3;unfold zzd))
  go_wp2_with fail
  refine bodyPost_ret (v:=zzd w2.heap.size) (by unfold zzd;simp [results,Tryz.results129,go_sem,q3]) rfl ?_
  rw [HQ.out]
  have hlt2:w.heap.size<w2.heap.size:=Nat.lt_of_lt_of_le (P2.out.below (Below.refl _ _).drew).lt HST.out.2.size
  have hrow:=HROW.out
  rw [HTX.out] at hrow
  refine ⟨_,rfl,vn_end (node_mk (KidsIn.nil (fun x=>w.heap.size<x) E.pl w2) HB3.out hrow hlt2 (fun _ h _=>h) (by omega)) _,?_⟩
  exact ST.set H.out (((S2.out.below (Below.refl _ _).drew).trans HST.out).below HB3.out) _ _ (Nat.le_refl _) _
theorem NodeAt.st {pl:Nat→Nat} {B rb:Nat} {w w':World} {b:Nat} {t:Tree} (h:NodeAt (fun x=>B<x) pl w b t) (hg:w.grownBy w' (some rb)) (hr:rb≤B):NodeAt (fun x=>B<x) pl w' b t:=
 h.kept (Keeps.grown hg fun b e hb=>by obtain rfl:=Option.some.inj e;exact absurd hb (by omega))
theorem NodeAt.bl {ok:Nat→Prop} {pl:Nat→Nat} {w w':World} {b:Nat} {t:Tree} (h:NodeAt ok pl w b t) (hb:Below w.heap.size w w'):NodeAt ok pl w' b t:=h.kept (Keeps.below hb)
theorem NodeAt.from {pl:Nat→Nat} {B C:Nat} {w:World} {b:Nat} {t:Tree} (h:NodeAt (fun x=>C≤x) pl w b t) (hB:B<C):NodeAt (fun x=>B<x) pl w b t:=h.weak fun _ hx _=>Nat.lt_of_lt_of_le hB hx
theorem NodeAt.over {pl:Nat→Nat} {B C:Nat} {w:World} {b:Nat} {t:Tree} (h:NodeAt (fun x=>C<x) pl w b t) (hB:B≤C):NodeAt (fun x=>B<x) pl w b t:=h.weak fun _ hx _=>Nat.lt_of_le_of_lt hB hx
theorem KidsIn.st {pl:Nat→Nat} {B rb:Nat} {w w':World} {v:Value} {n:Nat} {ts:List Tree} (h:KidsIn (fun x=>B<x) pl w v n ts) (hg:w.grownBy w' (some rb)) (hr:rb≤B):KidsIn (fun x=>B<x) pl w' v n ts:=
 h.keep hg (fun b e hb=>by obtain rfl:=Option.some.inj e;exact absurd hb (by omega)) fun _ h _=>h
theorem KidsIn.bl {ok:Nat→Prop} {pl:Nat→Nat} {w w':World} {v:Value} {n:Nat} {ts:List Tree} (h:KidsIn ok pl w v n ts) (hb:Below w.heap.size w w'):KidsIn ok pl w' v n ts:=
 h.keep (row:=none) ⟨hb.os,hb.tape,hb.output,hb.size,fun i hi _=>hb.block i hi⟩ (fun b e=>by cases e) fun _ h _=>h
theorem KidsIn.from {pl:Nat→Nat} {B C:Nat} {w:World} {v:Value} {n:Nat} {ts:List Tree} (h:KidsIn (fun x=>C≤x) pl w v n ts) (hB:B<C):KidsIn (fun x=>B<x) pl w v n ts:=
 h.keep (row:=none) ⟨rfl,rfl,rfl,Nat.le_refl _,fun _ _ _=>rfl⟩ (fun b e=>by cases e) fun _ hx _=>Nat.lt_of_lt_of_le hB hx
theorem KidsIn.over {pl:Nat→Nat} {B C:Nat} {w:World} {v:Value} {n:Nat} {ts:List Tree} (h:KidsIn (fun x=>C<x) pl w v n ts) (hB:B≤C):KidsIn (fun x=>B<x) pl w v n ts:=
 h.keep (row:=none) ⟨rfl,rfl,rfl,Nat.le_refl _,fun _ _ _=>rfl⟩ (fun b e=>by cases e) fun _ hx _=>Nat.lt_of_le_of_lt hB hx
theorem KidsIn.up {pl:Nat→Nat} {B:Nat} {w:World} {v:Value} {n:Nat} {ts:List Tree} (h:KidsIn (fun x=>B<x) pl w v n ts):KidsIn (fun x=>B≤x) pl w v n ts:=
 h.keep (row:=none) ⟨rfl,rfl,rfl,Nat.le_refl _,fun _ _ _=>rfl⟩ (fun b e=>by cases e) fun _ hx _=>Nat.le_of_lt hx
theorem zjj {w:World} {base base':Nat} {e:TypeId} {size:Nat} {v:Value} {n:Nat} {xs:List Value} (h:w.ownsRow base e size v n xs) (hb:base'≤base):w.ownsRow base' e size v n xs:=by
 refine ⟨h.1,?_⟩
 rcases h.2 with h2|⟨g,cap,cur,h2,h3,h4⟩
 ·exact .inl h2
 ·exact .inr ⟨g,cap,cur,h2,Nat.le_trans hb h3,h4⟩
theorem zxk {pl:Nat→Nat} {B:Nat} {w:World} {b:Nat} {t:Tree} (h:NodeAt (fun x=>B<x) pl w b t) (hB:B<w.heap.size):KidsIn (fun x=>B<x) pl (w.alloc (.cells #[.pointer (some ⟨b,0,none⟩)] 25)) (.slice (some ⟨w.heap.size,0,none⟩) 1 1) 1 [t]:=by
 refine ⟨[b],World.ownsRow_lit w #[.pointer (some ⟨b,0,none⟩)] 1 (Nat.zero_le _) (by simp only [maxLen];omega) rfl,rfl,rfl,?_,?_⟩
 ·intro g hg;obtain rfl:=Option.some.inj hg;exact hB
 ·intro k x t' hx ht
  rcases k with _|k
  ·obtain rfl:=Option.some.inj hx
   obtain rfl:=Option.some.inj ht
   exact h.keep (Keeps.below (b1 w _)) fun y hy hl=>⟨hy,fun e=>by have h9:w.heap.size=y:=Option.some.inj e;omega⟩
  ·simp at hx
theorem kids_lit2 {pl:Nat→Nat} {B:Nat} {w:World} {b c:Nat} {t u:Tree} (h:NodeAt (fun x=>B<x) pl w b t) (h':NodeAt (fun x=>B<x) pl w c u) (hB:B<w.heap.size):KidsIn (fun x=>B<x) pl (w.alloc (.cells #[.pointer (some ⟨b,0,none⟩),.pointer (some ⟨c,0,none⟩)] 25)) (.slice (some ⟨w.heap.size,0,none⟩) 2 2) 2 [t,u]:=by
 refine ⟨[b,c],World.ownsRow_lit w #[.pointer (some ⟨b,0,none⟩),.pointer (some ⟨c,0,none⟩)] 2 (Nat.zero_le _) (by simp only [maxLen];omega) rfl,rfl,rfl,?_,?_⟩
 ·intro g hg;obtain rfl:=Option.some.inj hg;exact hB
 ·intro k x t' hx ht
  rcases k with _|k
  ·obtain rfl:=Option.some.inj hx
   obtain rfl:=Option.some.inj ht
   exact h.keep (Keeps.below (b1 w _)) fun y hy hl=>⟨hy,fun e=>by have h9:w.heap.size=y:=Option.some.inj e;omega⟩
  ·rcases k with _|k
   ·obtain rfl:=Option.some.inj hx
    obtain rfl:=Option.some.inj ht
    exact h'.keep (Keeps.below (b1 w _)) fun y hy hl=>⟨hy,fun e=>by have h9:w.heap.size=y:=Option.some.inj e;omega⟩
   ·simp at hx
theorem node_info:(Tryz.prog.info? 25).map (fun i=>(i.zero,i.size,i.bytes))=some (some (.agg #[.pointer none]),1,8):=by kernel_rfl
theorem zzs {ops:Array Oper} {rest:List Oper} {o:Oper} {a:Act} {Q:Exit→Act→World→Prop} {w:World} (hgd:o.guard=none) (s x:Operand)
 (ho:o.op= .call ⟨.builtin .append,#[s,x],#[80,80]⟩) (B:Nat) (pl:Nat→Nat) (v:Value) (n:Nat) (ts:List Tree) (hs:a.eval s=v) (hk:KidsIn (fun x=>B<x) pl w v n ts)
 (b:Nat) (t:Tree) (hb:NodeAt (fun x=>B<x) pl w b t) (hvb:∀ g,v.ownBlock=some g→NodeAt (fun x=>B<x∧g≠x) pl w b t) (ad:Nat) (hx:a.eval x= .slice (some ⟨ad,0,none⟩) 1 1) (hnews:w.cell? ⟨ad,0,none⟩=some (.pointer (some ⟨b,0,none⟩))) (hn:n≤6000) (hB:B<w.heap.size)
 (h:∀ g cap w',KidsIn (fun x=>B<x) pl w' (.slice (some ⟨g,0,none⟩) (n+1) cap) (n+1) (ts++ [t])→w.grownBy w' v.ownBlock→(∀ y,v.ownBlock=some y→B<y)→wpList Tryz.prog ops Q rest (a.put o.dst (.slice (some ⟨g,0,none⟩) (n+1) cap)) w'):wpList Tryz.prog ops Q (o::rest) a w:=by
 obtain ⟨bs,h1,h2,h3,h4,h5⟩:=hk
 obtain ⟨i0,hi0,hz0,hz1,hz2⟩:=info_parts node_info
 refine wpList_append_lies _ hgd s x 80 ho 0 25 i0 _ 1 8 Tryz.underlying80 hi0 hz0 hz1 hz2 rfl (by omega) v n (ptrsOf bs) hs h1 ⟨ad,0,none⟩ 1 1 [.pointer (some ⟨b,0,none⟩)] hx rfl ?_ (by simp [Value.oneCell']) (by omega) (by simp only [maxLen];omega) (by omega) (Nat.zero_le _) w.heap.size rfl ?_
 ·intro j u hj
  rcases j with _|j
  ·obtain rfl:=Option.some.inj hj;exact hnews
  ·simp at hj
 ·intro g cap w' hown hg hat hlt
  refine h g cap w' ⟨bs++ [b],?_,by simp [h2],by simp [h3],?_,?_⟩ hg h4
  ·unfold ptrsOf at hown ⊢
   rw [List.map_append];exact hown
  ·intro y hy
   have hy':g=y:=Option.some.inj hy
   subst hy'
   rcases hat with e|e
   ·exact h4 _ e
   ·omega
  ·intro k x' t' hx' ht'
   have hw:∀ y,((B<y∧v.ownBlock≠some y))→y<w.heap.size→(B<y∧(Value.slice (some ⟨g,0,none⟩) (n+1) cap).ownBlock≠some y):=by
    intro y hy hl
    refine ⟨hy.1,fun e=> ?_⟩
    have hy':g=y:=Option.some.inj e
    subst hy'
    rcases hat with e|e
    ·exact hy.2 e
    ·omega
   have hkp:Keeps (fun y=>B<y∧v.ownBlock≠some y) w w':=Keeps.grown hg fun y e hy=>hy.2 e
   rcases Nat.lt_or_ge k n with hkn|hkn
   ·rw [List.getElem?_append_left (by omega)] at hx' ht'
    exact (h5 k x' t' hx' ht').keep hkp hw
   ·rw [List.getElem?_append_right (by omega)] at hx' ht'
    have hk0:k - bs.length=0:=by
     have:=(List.getElem?_eq_some_iff.1 hx').1
     simp at this;omega
    rw [hk0] at hx'
    rw [show k - ts.length=0 by omega] at ht'
    obtain rfl:=Option.some.inj hx'
    obtain rfl:=Option.some.inj ht'
    refine NodeAt.keep (ok:=fun y=>B<y∧v.ownBlock≠some y) ?_ hkp hw
    cases hv:v.ownBlock with
    |none=>exact hb.weak fun y hy _=>⟨hy,by simp⟩
    |some g'=>exact (hvb g' hv).weak fun y hy _=>⟨hy.1,fun e=>hy.2 (Option.some.inj e)⟩
theorem ST.grow {E:Env} {w0 w w':World} {i0 d0 i d:Nat} {row:Option Nat} (R0:RD E w0 i0 d0) (h:ST E w0 w i d) (hg:w.grownBy w' row) (hr:∀ y,row=some y→w0.heap.size≤y):ST E w0 w' i d:=by
 have c:∀ x o',x<w0.heap.size→w'.cell? ⟨x,o',none⟩=w.cell? ⟨x,o',none⟩:=fun x o' hx=>hg.cell_far ⟨x,o',none⟩ (Nat.lt_of_lt_of_le hx h.2.size) (fun e=>by have:=hr x e.symm;omega)
 have f:∀ x o',x<w0.heap.size→w'.frozen? ⟨x,o',none⟩=w.frozen? ⟨x,o',none⟩:=fun x o' hx=>hg.frozen_far ⟨x,o',none⟩ (Nat.lt_of_lt_of_le hx h.2.size) (fun e=>by have:=hr x e.symm;omega)
 refine ⟨?_,zw3 h.2 hg fun j e=> .inl (hr j e)⟩
 exact { h.1 with lt:=Nat.lt_of_lt_of_le h.1.lt hg.size,llt:=Nat.lt_of_lt_of_le h.1.llt hg.size,c0:=(c _ _ R0.lt).trans h.1.c0,c1:=(c _ _ R0.lt).trans h.1.c1,c2:=(c _ _ R0.lt).trans h.1.c2,fr:=fun k=>(f _ _ R0.lt).trans (h.1.fr k),k0:=fun k hk=>(c _ _ R0.llt).trans (h.1.k0 k hk),k1:=fun k hk=>(c _ _ R0.llt).trans (h.1.k1 k hk),k2:=fun k hk=>(c _ _ R0.llt).trans (h.1.k2 k hk),good:=h.1.good.low (zwm hg (fun x e=>Nat.le_trans R0.good.size (hr x e)) h.1.good.size) }
theorem PtrAt.grow {w w':World} {b:Nat} {x:Option Addr} {row:Option Nat} (h:PtrAt w b x) (hg:w.grownBy w' row) (hne:row≠some b):PtrAt w' b x:=
 ⟨Nat.lt_of_lt_of_le h.lt hg.size,(hg.cell_far ⟨b,0,none⟩ h.lt (fun e=>hne e.symm)).trans h.c0,(hg.frozen_far ⟨b,0,none⟩ h.lt (fun e=>hne e.symm)).trans h.f0⟩
theorem TokAt.grow {w w':World} {b:Nat} {k:Int} {s:ByteArray} {p:Int} {row:Option Nat} (h:TokAt w b k s p) (hg:w.grownBy w' row) (hne:row≠some b):TokAt w' b k s p:=
 ⟨Nat.lt_of_lt_of_le h.lt hg.size,(hg.cell_far ⟨b,0,none⟩ h.lt (fun e=>hne e.symm)).trans h.c0,(hg.cell_far ⟨b,1,none⟩ h.lt (fun e=>hne e.symm)).trans h.c1,(hg.cell_far ⟨b,2,none⟩ h.lt (fun e=>hne e.symm)).trans h.c2,(hg.frozen_far ⟨b,0,none⟩ h.lt (fun e=>hne e.symm)).trans h.f0,(hg.frozen_far ⟨b,1,none⟩ h.lt (fun e=>hne e.symm)).trans h.f1,(hg.frozen_far ⟨b,2,none⟩ h.lt (fun e=>hne e.symm)).trans h.f2⟩
theorem zqm {E:Env} {w w2 w3:World} {i0 d0 i d n op pos B:Nat} {name typ:List UInt8} {num:Int} {v:Value} {ts:List Tree} (H:RD E w i0 d0) (hst:ST E w w2 i d) (hk:KidsIn (fun x=>B<x) E.pl w2 v n ts) (hB:w.heap.size≤B) (hb:Below w2.heap.size w2 w3) (hrow:RowAt w3 w2.heap.size op ⟨name.toArray⟩ ⟨typ.toArray⟩ num (E.pl pos) v) (hlt:w.heap.size<w2.heap.size) (hn:n≤6000) (u:Value):
 Q E w d (VN E w.heap.size) (.ok (.mk op name typ num pos ts) i) (.returned (zzd w2.heap.size)) (w3.setCell ⟨w.heap.size,0,none⟩ u):=
 ⟨_,rfl,vn_end (node_mk hk hb hrow hlt (fun _ h _=>Nat.lt_of_le_of_lt hB h) hn) _,ST.set H (hst.below hb) _ _ (Nat.le_refl _) _⟩
theorem zz5 {E:Env} {w w2:World} {i0 d0 i d b B:Nat} {t:Tree} (H:RD E w i0 d0) (hst:ST E w w2 i d) (hn:NodeAt (fun x=>B<x) E.pl w2 b t) (hB:w.heap.size≤B) (u:Value):
 Q E w d (VN E w.heap.size) (.ok t i) (.returned (zzd b)) (w2.setCell ⟨w.heap.size,0,none⟩ u):=
 ⟨_,rfl,vn_end (hn.over hB) _,ST.set H hst _ _ (Nat.le_refl _) _⟩
def binB (op:Int):Bool:=decide (1≤op)&&decide (op≤16)
def unB (op:Int):Bool:=(op==17)||(op==18)
def zjg (s:ByteArray) (args:Int):Int:=if args=1 then zq1 s.data.toList 17 2 else if args=2 then zq1 s.data.toList 1 16 else 0
theorem z0u (op:Int) (w:World):Calls Tryz.prog 169 #[.int .i64 op] w fun e w'=>e= .returned (.bool (binB op))∧w=w':=by
 go_enter Tryz.func169,Tryz.ntmps169
 go_wp2
 all_goals go_ret
 all_goals exact ⟨zz6 (by unfold binB;first|(simp [*];done)|(simp;omega)),rfl⟩
theorem z2c (op:Int) (w:World):Calls Tryz.prog 170 #[.int .i64 op] w fun e w'=>e= .returned (.bool (unB op))∧w=w':=by
 go_enter Tryz.func170,Tryz.ntmps170
 go_wp2
 all_goals go_ret
 all_goals exact ⟨zz6 (by simp [unB, *]),rfl⟩
theorem level_any (op:Int) (w:World):Calls Tryz.prog 232 #[.int .i64 op] w fun e w'=>e= .returned (.int .i64 (z0r op))∧w=w':=by
 go_enter Tryz.func232,Tryz.ntmps232
 go_wp2
 all_goals go_ret
 all_goals (refine ⟨z1y ?_,rfl⟩;simp only [beq_iff_eq,beq_eq_false_iff_ne,ne_eq] at*;unfold z0r;(repeat' split)<;>omega)
theorem ret_ib {a b:Int} {c d:Bool} (h:a=b) (g:c=d):Ending.returned (.tuple #[.int .i64 a,.bool c])= .returned (.tuple #[.int .i64 b,.bool d]):=by rw [h,g]
theorem sign_none (op:Int) (w:World) (h:op<1∨18<op):Calls Tryz.prog 141 #[.int .i64 op] w fun e w'=>e= .returned (.string (signS op))∧w=w':=by
 have e1:binB op=false:=by unfold binB;simp;omega
 have e2:unB op=false:=by unfold unB;simp;omega
 have hv:signS op=⟨#[]⟩:=by simp [signS,zqj,h]
 rw [hv]
 clear hv
 go_enter Tryz.func141,Tryz.ntmps141
 go_wp2_with (first|(go_at_call 169;refine (z0u _ _).mono ?_;rintro e w' ⟨rfl,rfl⟩)|(go_at_call 170;refine (z2c _ _).mono ?_;rintro e w' ⟨rfl,rfl⟩))
 go_ret
 exact ⟨rfl,rfl⟩
theorem sign_some (op:Int) (w:World) (h1:1≤op) (h2:op≤18) (hS:SignsIn w):Calls Tryz.prog 141 #[.int .i64 op] w fun e w'=>e= .returned (.string (signS op))∧w=w':=by
 obtain ⟨k,rfl⟩:=Int.eq_ofNat_of_zero_le (show 0≤op by omega)
 have hv:signS (k:Int)=⟨(signTab.getD k []).toArray⟩:=by
  unfold signS zqj;rw [if_neg (by omega),Int.toNat_natCast]
 have hc:=hS k (by omega)
 rw [hv]
 clear hv hS
 generalize (⟨(signTab.getD k []).toArray⟩:ByteArray)=s at*
 by_cases h3:(k:Int)≤16
 ·have e1:binB (k:Int)=true:=by unfold binB;simp;omega
  go_enter Tryz.func141,Tryz.ntmps141
  go_wp2_with (first|(go_at_call 169;refine (z0u _ _).mono ?_;rintro e w' ⟨rfl,rfl⟩)|(go_at_call 170;refine (z2c _ _).mono ?_;rintro e w' ⟨rfl,rfl⟩))
  go_ret
  exact ⟨rfl,rfl⟩
 ·have e1:binB (k:Int)=false:=by unfold binB;simp;omega
  have e2:unB (k:Int)=true:=by unfold unB;simp;omega
  go_enter Tryz.func141,Tryz.ntmps141
  go_wp2_with (first|(go_at_call 169;refine (z0u _ _).mono ?_;rintro e w' ⟨rfl,rfl⟩)|(go_at_call 170;refine (z2c _ _).mono ?_;rintro e w' ⟨rfl,rfl⟩))
  go_ret
  exact ⟨rfl,rfl⟩
theorem sign_any (op:Int) (w:World) (hS:SignsIn w):Calls Tryz.prog 141 #[.int .i64 op] w fun e w'=>e= .returned (.string (signS op))∧w=w':=by
 by_cases h:op<1∨18<op
 ·exact sign_none op w h
 ·exact sign_some op w (by omega) (by omega) hS
theorem find_hit (l:List UInt8) (k n:Nat) (h:signTab.getD k []=l):zq1 l k (n+1)=k:=by rw [zq1,if_pos h]
theorem find_miss (l:List UInt8) (k n:Nat) (h:¬ signTab.getD k []=l):zq1 l k (n+1)=zq1 l (k+1) n:=by
 rw [zq1,if_neg h]
theorem among_any (s:ByteArray) (a n:Nat) (w:World) (h1:1≤a) (h2:a+n≤19) (hS:SignsIn w):
 Calls Tryz.prog 251 #[.string s,.int .i64 a,.int .i64 ((a+n:Nat) - 1:Int)] w fun e w'=>e= .returned (.tuple #[.int .i64 (zq1 s.data.toList a n),.bool (zq1 s.data.toList a n !=0)])∧w=w':=by
 have HS:=hid hS
 clear hS
 obtain ⟨b,hb⟩:∃ b:Int,b=((a+n:Nat) - 1:Int):=⟨_,rfl⟩
 obtain ⟨l,hl⟩:∃ l:Nat,l=a+n:=⟨_,rfl⟩
 have hn:n=l - a:=by omega
 rw [←hb]
 subst hn
 have Hb:b+1=l:=by omega
 have HB:=hid Hb
 have hb1:b≤18:=by omega
 have hal:a≤l:=by omega
 clear hb hl Hb
 obtain ⟨q,hq⟩:∃ q:Int,q=zq1 s.data.toList a (l - a):=⟨_,rfl⟩
 rw [←hq]
 have HQ:=hid hq
 clear hq
 go_enter Tryz.func251,Tryz.ntmps251
 go_wp2
 go_loop [8] (fun i=>∃ k:Nat,a≤k∧k≤l∧i= .int .i64 k∧Hid (q=zq1 s.data.toList k (l - k))) (fun i=>19 - (intOf i).toNat)
 case atStart=>exact ⟨a,Nat.le_refl _,by omega,rfl,HQ⟩
 case round=>
  obtain ⟨k,hk1,hk2,rfl,HK⟩:=hrel
  have hbl:=HB.out
  by_cases hlt:(k:Int)≤b
  ·have hc:=HS.out k (by omega)
   by_cases hm:signTab.getD k []=s.data.toList
   ·have hf:q=k:=by rw [HK.out,show l - k=(l - k - 1)+1 by omega,find_hit _ _ _ hm]
    have HF:=hid hf
    have hk18:k<19:=by omega
    clear hf hbl
    have hsb:(⟨(signTab.getD k []).toArray⟩:ByteArray)=s:=by rw [hm]
    rw [hsb] at hc
    clear hsb hm HK
    go_wp2
    go_ret2
    exact ⟨ret_ib HF.out.symm (by rw [HF.out];simp;omega),rfl⟩
   ·have hf:q=zq1 s.data.toList (k+1) (l - (k+1)):=by rw [HK.out,show l - k=(l - k - 1)+1 by omega,find_miss _ _ _ hm];rfl
    have HF:=hid hf
    have hk18:k<19:=by omega
    have hne:((signTab.getD k [])==s.toList)=false:=by
     simp;intro e;apply hm;rw [List.getD_eq_getElem?_getD,e];exact ByteArray.toList_eq s
    clear hf hbl hm HK
    generalize signTab.getD k []=t at hc hne
    go_wp2
    go_round
    case rel=>exact ⟨k+1,by omega,by have:=HB.out;omega,by go_num,HF⟩
    case measure=>simp [intOf];omega
  ·have hf:q=0:=by rw [HK.out,show l - k=0 by omega];rfl
   have HF:=hid hf
   clear hf HK
   go_wp2
   go_ret2
   exact ⟨ret_ib HF.out.symm (by rw [HF.out];rfl),rfl⟩
theorem signed_any (s:ByteArray) (args:Int) (w:World) (hS:SignsIn w):Calls Tryz.prog 247 #[.string s,.int .i64 args] w fun e w'=>e= .returned (.tuple #[.int .i64 (zjg s args),.bool (zjg s args !=0)])∧w=w':=by
 have HS:=hid hS
 clear hS
 by_cases h1:args=1
 ·subst h1
  have hv:zjg s 1=zq1 s.data.toList 17 2:=by simp [zjg]
  rw [hv]
  clear hv
  go_enter Tryz.func247,Tryz.ntmps247
  go_wp2_with (go_at_call 251;refine (among_any _ 17 2 _ (by omega) (by omega) HS.out).mono ?_;rintro e w' ⟨rfl,rfl⟩)
  go_ret2
  exact ⟨rfl,rfl⟩
 ·by_cases h2:args=2
  ·subst h2
   have hv:zjg s 2=zq1 s.data.toList 1 16:=by simp [zjg]
   rw [hv]
   clear hv
   go_enter Tryz.func247,Tryz.ntmps247
   go_wp2_with (go_at_call 251;refine (among_any _ 1 16 _ (by omega) (by omega) HS.out).mono ?_;rintro e w' ⟨rfl,rfl⟩)
   go_ret2
   exact ⟨rfl,rfl⟩
  ·have hv:zjg s args=0:=by simp [zjg,h1,h2]
   have b1:(args==1)=false:=by simpa using h1
   have b2:(args==2)=false:=by simpa using h2
   rw [hv]
   clear hv h1 h2
   go_enter Tryz.func247,Tryz.ntmps247
   go_wp2
   go_ret2
   exact ⟨rfl,rfl⟩
theorem zxr {α:Type} {x:Option (Res α)} {r:Res α} (h:x=some r):(∃ j e,x=some (.bad j e)∧r= .bad j e)∨(∃ a j,x=some (.ok a j)∧r= .ok a j):=by
 cases r with
 |ok a j=>exact .inr ⟨a,j,h,rfl⟩
 |bad j e=>exact .inl ⟨j,e,h,rfl⟩
section
variable {α:Type} {T:Nat→AT} {c:zxl} {i:Nat} {r:Res α}
theorem zq9 {K:List UInt8} {A B:Nat→AT→Pr α} (h:runW T c (.peek fun i t=>if t.text=K then A i t else B i t) i=some r) (ht:(T i).text=K):runW T c (A i (T i)) i=some r:=by
 simp only [runW,if_pos ht] at h;exact h
theorem zk6 {K:List UInt8} {A B:Nat→AT→Pr α} (h:runW T c (.peek fun i t=>if t.text=K then A i t else B i t) i=some r) (ht:¬ (T i).text=K):runW T c (B i (T i)) i=some r:=by
 simp only [runW,if_neg ht] at h;exact h
theorem zkc {b:Prop} [Decidable b] {A B:Pr α} (h:runW T c (if b then A else B) i=some r) (hb:b):runW T c A i=some r:=by rw [if_pos hb] at h;exact h
theorem zqq {b:Prop} [Decidable b] {A B:Pr α} (h:runW T c (if b then A else B) i=some r) (hb:¬ b):runW T c B i=some r:=by rw [if_neg hb] at h;exact h
theorem zvc {k:Nat→AT→Pr α} (h:runW T c (.peek k) i=some r):runW T c (k i (T i)) i=some r:=h
theorem zq4 {p:Pr α} (h:runW T c (.next p) i=some r):runW T c p (i+1)=some r:=h
theorem run_fail {e:Nat} (h:runW T c (.fail e) i=some r):r= .bad i e:=(Option.some.inj h).symm
theorem zz7 {a:α} (h:runW T c (.ret a) i=some r):r= .ok a i:=(Option.some.inj h).symm
theorem zvs {nt:NT} {d:Nat} {f:List Tree→Pr α} (h:runW T c (.call nt d f) i=some r):∃ rs,c nt d i=some rs∧(∀ j e,rs= .bad j e→r= .bad j e)∧(∀ a j,rs= .ok a j→runW T c (f a) j=some r):=by
 rcases zxx h with ⟨j,e,h1,h2⟩|⟨a,j,h1,h2⟩
 ·exact ⟨_,h1,fun j' e' g=>by cases g;exact h2,fun a j' g=>by cases g⟩
 ·exact ⟨_,h1,fun j' e' g=>by (cases g),fun a' j' g=>by cases g;exact h2⟩
end
def preR (ks:List Tree):Res (List Tree)→Res (List Tree)
 | .ok ts j=> .ok (ks++ts) j
 | .bad j e=> .bad j e
theorem z1f (r:Res (List Tree)):preR [] r=r:=by cases r<;>rfl
theorem P_prog {T:Nat→AT} {z:Nat} (S:Sent T z) {m d i j:Nat} {nt:NT} {ts:List Tree} (hok:okNT nt) (hi:i≤z) (h:P T m nt d i=some (.ok ts j)):i+minc nt≤j∧j≤z:=by
 obtain ⟨r,h1,h2⟩:=z2i S (max m (4*(z - i)+rank nt+1)) nt d i hok hi (by omega)
 have:=z3l T (Nat.le_max_left m (4*(z - i)+rank nt+1)) _ _ _ _ h
 rw [this] at h1
 exact h2 ts j (Option.some.inj h1).symm
theorem z2l {α:Type} {T:Nat→AT} {z:Nat} {c:zxl} {k:Nat} {p:Pr α} {i j:Nat} {a:α} (h:Tot T z c k p i) (hr:runW T c p i=some (.ok a j)):i+k≤j∧j≤z:=by
 obtain ⟨r,h1,h2⟩:=h
 rw [hr] at h1
 exact h2 a j (Option.some.inj h1).symm
theorem P_pos {T:Nat→AT} {m:Nat} {nt:NT} {d i:Nat} {r:Res (List Tree)} (h:P T m nt d i=some r):∃ m',m=m'+1∧runW T (P T m') (body nt d) i=some r:=by
 cases m with
 |zero=>cases h
 |succ m=>exact ⟨m,rfl,h⟩
def nx (E:Env) (w:World):Nat:=match w.cell? ⟨E.rb,1,none⟩ with|some (.int _ i)=>i.toNat|_=>0
theorem RD.at_nx {E:Env} {w:World} {i d:Nat} (h:RD E w i d):nx E w=i:=by unfold nx;rw [h.c1];simp
theorem KidsIn.lt {ok:Nat→Prop} {pl:Nat→Nat} {w:World} {v:Value} {n:Nat} {ts:List Tree} (h:KidsIn ok pl w v n ts):∀ g,v.ownBlock=some g→g<w.heap.size:=by
 obtain ⟨bs,h1,-⟩:=h
 exact fun g hg=>(h1.lt g hg).2
def KRel (E:Env) (n:Nat) (w:World) (B:Nat) (nt:NT) (d:Nat) (rs:Res (List Tree)) (v:Value) (wr:World):Prop:=
 ∃ (m k i:Nat) (ts:List Tree) (r:Res (List Tree)),m≤n∧k≤i∧B<wr.heap.size∧Hid (P E.T m nt d i=some r)∧Hid (rs=preR ts r)∧Hid (KidsIn (fun x=>B<x) E.pl wr v k ts)∧Hid (ST E w wr i d)∧Hid (PtrAt wr w.heap.size none)
def KRelL (E:Env) (n:Nat) (w:World) (nt:NT) (dn d:Nat) (rs:Res (List Tree)) (v:Value) (wr:World):Prop:=
 ∃ (m k i:Nat) (ts:List Tree) (r:Res (List Tree)),m≤n∧k≤i∧w.heap.size≤wr.heap.size∧Hid (P E.T m nt dn i=some r)∧Hid (rs=preR ts r)∧Hid (KidsIn (fun x=>w.heap.size - 1<x) E.pl wr v k ts)∧Hid (ST E w wr i d)
def KRelT (E:Env) (n:Nat) (w:World) (B:Nat) (nt:NT) (dn d:Nat) (kd:Int) (s:ByteArray) (p:Int) (rs:Res (List Tree)) (v:Value) (wr:World):Prop:=
 ∃ (m k i:Nat) (ts:List Tree) (r:Res (List Tree)),m≤n∧k≤i∧B<wr.heap.size∧Hid (P E.T m nt dn i=some r)∧Hid (rs=preR ts r)∧Hid (KidsIn (fun x=>B<x) E.pl wr v k ts)∧Hid (ST E w wr i d)∧Hid (PtrAt wr w.heap.size none)∧Hid (TokAt wr B kd s p)
theorem vl_end {E:Env} {w wr:World} {v:Value} {k:Nat} {ts:List Tree} (h:KidsIn (fun x=>w.heap.size - 1<x) E.pl wr v k ts) (hk:k≤5001):VL E w.heap.size ts v wr:=by
 have hl:ts.length=k:=by obtain ⟨bs,-,-,h3,-⟩:=h;exact h3
 refine ⟨by omega,?_⟩
 rw [hl]
 exact h.keep (row:=none) ⟨rfl,rfl,rfl,Nat.le_refl _,fun _ _ _=>rfl⟩ (fun b e=>by cases e) fun x hx _=>by omega
theorem preR_ok {ks:List Tree} {rs:Res (List Tree)} {a:List Tree} {j:Nat} (h:preR ks rs= .ok a j):∃ a',rs= .ok a' j∧a=ks++a':=by
 cases rs with
 |ok x y=>injection h with h1 h2;exact ⟨x,by rw [h2],h1.symm⟩
 |bad x y=>cases h
theorem preR_bad {ks:List Tree} {rs:Res (List Tree)} {j e:Nat} (h:preR ks rs= .bad j e):rs= .bad j e:=by
 cases rs with
 |ok x y=>cases h
 |bad x y=>exact h
theorem preR_pre (a b:List Tree) (r:Res (List Tree)):preR a (preR b r)=preR (a++b) r:=by cases r<;>simp [preR]
def VH (E:Env) (lo:Nat) (ts:List Tree) (v:Value) (w':World):Prop:=VN E lo (hd ts) v w'
structure IH (E:Env) (n:Nat):Prop where
 binary:∀ (w:World) (i d l:Nat) (r:Res (List Tree)),1≤l→l≤6→RD E w i d→Hid (P E.T n (.binary l) d i=some r)→Calls Tryz.prog 218 #[.pointer (some ⟨E.rb,0,none⟩),.int .i64 l] w (Q E w d (VH E w.heap.size) r)
 unary:∀ (w:World) (i d:Nat) (r:Res (List Tree)),RD E w i d→Hid (P E.T n .unary d i=some r)→Calls Tryz.prog 236 #[.pointer (some ⟨E.rb,0,none⟩)] w (Q E w d (VH E w.heap.size) r)
 stmt:∀ (w:World) (i d:Nat) (r:Res (List Tree)),RD E w i d→Hid (P E.T n .stmt d i=some r)→Calls Tryz.prog 164 #[.pointer (some ⟨E.rb,0,none⟩)] w (Q E w d (VH E w.heap.size) r)
 branch:∀ (w:World) (i d:Nat) (r:Res (List Tree)),RD E w i d→Hid (P E.T n .branch d i=some r)→Calls Tryz.prog 178 #[.pointer (some ⟨E.rb,0,none⟩)] w (Q E w d (VH E w.heap.size) r)
def rowV (op:Int) (name typ:ByteArray) (n p:Int) (A:Option Addr) (m c:Nat):Value:= .agg #[.int .i64 op,.string name,.string typ,.int .i64 n,.int .i64 p,.slice A m c]
theorem get_any (w:World) (b:Nat) (op:Int) (name typ:ByteArray) (n p:Int) (A:Option Addr) (m c:Nat) (h:RowAt w b op name typ n p (.slice A m c)):
 Calls Tryz.prog 37 #[.agg #[.pointer (some ⟨b,0,none⟩)]] w fun e w'=>e= .returned (rowV op name typ n p A m c)∧Below w.heap.size w w':=by
 obtain ⟨hl,h0,h1,h2,h3,h4,h5⟩:=h
 go_enter Tryz.func37,Tryz.ntmps37
 go_wp2_with fail
 refine bodyPost_ret (v:=rowV op name typ n p A m c) (by unfold rowV;simp [results,Tryz.results37,go_sem]) rfl ⟨rfl,?_⟩
 exact (b1 w _).trans ((b1 _ _).mono (by simp))
theorem get_zero (w:World):
 Calls Tryz.prog 37 #[.agg #[.pointer none]] w fun e w'=>e= .returned (rowV 0 ⟨#[]⟩ ⟨#[]⟩ 0 0 none 0 0)∧Below w.heap.size w w':=by
 go_enter Tryz.func37,Tryz.ntmps37
 go_wp2_with fail
 refine bodyPost_ret (v:=rowV 0 ⟨#[]⟩ ⟨#[]⟩ 0 0 none 0 0) (by unfold rowV;simp [results,Tryz.results37,go_sem]) rfl ⟨rfl,?_⟩
 exact (b1 w _).trans ((b1 _ _).mono (by simp))
theorem zx1:∀ (op:Int) (name typ:ByteArray) (n p:Int) (A:Option Addr) (m c:Nat) (w:World),(Instr.field 82 (.agg #[.int .i64 op,.string name,.string typ,.int .i64 n,.int .i64 p,.slice A m c]) 0).run Tryz.prog w= .ok (.int .i64 op) w:=fun _ _ _ _ _ _ _ _ _=>by kernel_rfl
theorem zzw:∀ (op:Int) (name typ:ByteArray) (n p:Int) (A:Option Addr) (m c:Nat) (w:World),(Instr.field 82 (.agg #[.int .i64 op,.string name,.string typ,.int .i64 n,.int .i64 p,.slice A m c]) 1).run Tryz.prog w= .ok (.string name) w:=fun _ _ _ _ _ _ _ _ _=>by kernel_rfl
theorem row_typ:∀ (op:Int) (name typ:ByteArray) (n p:Int) (A:Option Addr) (m c:Nat) (w:World),(Instr.field 82 (.agg #[.int .i64 op,.string name,.string typ,.int .i64 n,.int .i64 p,.slice A m c]) 2).run Tryz.prog w= .ok (.string typ) w:=fun _ _ _ _ _ _ _ _ _=>by kernel_rfl
theorem row_n:∀ (op:Int) (name typ:ByteArray) (n p:Int) (A:Option Addr) (m c:Nat) (w:World),(Instr.field 82 (.agg #[.int .i64 op,.string name,.string typ,.int .i64 n,.int .i64 p,.slice A m c]) 3).run Tryz.prog w= .ok (.int .i64 n) w:=fun _ _ _ _ _ _ _ _ _=>by kernel_rfl
theorem row_at:∀ (op:Int) (name typ:ByteArray) (n p:Int) (A:Option Addr) (m c:Nat) (w:World),(Instr.field 82 (.agg #[.int .i64 op,.string name,.string typ,.int .i64 n,.int .i64 p,.slice A m c]) 4).run Tryz.prog w= .ok (.int .i64 p) w:=fun _ _ _ _ _ _ _ _ _=>by kernel_rfl
theorem row_kids:∀ (op:Int) (name typ:ByteArray) (n p:Int) (A:Option Addr) (m c:Nat) (w:World),(Instr.field 82 (.agg #[.int .i64 op,.string name,.string typ,.int .i64 n,.int .i64 p,.slice A m c]) 5).run Tryz.prog w= .ok (.slice A m c) w:=fun _ _ _ _ _ _ _ _ _=>by kernel_rfl
def RowOf (w:World) (x:Option Addr) (op:Int) (name typ:ByteArray) (n p:Int) (A:Option Addr) (m c:Nat):Prop:=
 (∃ b,x=some ⟨b,0,none⟩∧RowAt w b op name typ n p (.slice A m c))∨(x=none∧op=0∧name=⟨#[]⟩∧typ=⟨#[]⟩∧n=0∧p=0∧A=none∧m=0∧c=0)
theorem RowAt.below {w w':World} {b:Nat} {op:Int} {name typ:ByteArray} {n p:Int} {kv:Value} (h:RowAt w b op name typ n p kv) (hb:Below w.heap.size w w'):RowAt w' b op name typ n p kv:=
 ⟨Nat.lt_of_lt_of_le h.lt hb.size,(hb.cell (p:=⟨b,0,none⟩) h.lt).trans h.h0,(hb.cell (p:=⟨b,1,none⟩) h.lt).trans h.h1,(hb.cell (p:=⟨b,2,none⟩) h.lt).trans h.h2,(hb.cell (p:=⟨b,3,none⟩) h.lt).trans h.h3,(hb.cell (p:=⟨b,4,none⟩) h.lt).trans h.h4,(hb.cell (p:=⟨b,5,none⟩) h.lt).trans h.h5⟩
theorem RowOf.below {w w':World} {x:Option Addr} {op:Int} {name typ:ByteArray} {n p:Int} {A:Option Addr} {m c:Nat} (h:RowOf w x op name typ n p A m c) (hb:Below w.heap.size w w'):RowOf w' x op name typ n p A m c:=by
 rcases h with ⟨b,h1,h2⟩|h
 ·exact .inl ⟨b,h1,h2.below hb⟩
 ·exact .inr h
theorem b1t {w w':World} {o:Obj} (h:Below (w.alloc o).heap.size (w.alloc o) w'):Below w.heap.size w w':=(b1 w o).trans (h.mono (by simp))
theorem get_of (w:World) (x:Option Addr) (op:Int) (name typ:ByteArray) (n p:Int) (A:Option Addr) (m c:Nat) (h:RowOf w x op name typ n p A m c):
 Calls Tryz.prog 37 #[.agg #[.pointer x]] w fun e w'=>e= .returned (rowV op name typ n p A m c)∧Below w.heap.size w w':=by
 rcases h with ⟨b,rfl,h⟩|⟨rfl,rfl,rfl,rfl,rfl,rfl,rfl,rfl,rfl⟩
 ·exact get_any w b op name typ n p A m c h
 ·exact get_zero w
theorem zkq (w:World) (x:Option Addr) (op:Int) (name typ:ByteArray) (n p:Int) (A:Option Addr) (m c:Nat) (h:RowOf w x op name typ n p A m c):
 Calls Tryz.prog 10 #[.agg #[.pointer x]] w fun e w'=>e= .returned (.int .i64 op)∧Below w.heap.size w w':=by
 have H:=hid (get_of _ x op name typ n p A m c (h.below (b1 w (.cells #[.pointer x] 25))))
 have hf:=zx1
 clear h
 go_enter Tryz.func10,Tryz.ntmps10
 go_wp2_with fail
 refine H.out.mono ?_
 rintro e w1 ⟨rfl,hb⟩
 unfold rowV
 clear H
 go_wp2_with fail
 go_ret
 exact ⟨rfl,b1t hb⟩
theorem zjr (w:World) (x:Option Addr) (op:Int) (name typ:ByteArray) (n p:Int) (A:Option Addr) (m c:Nat) (h:RowOf w x op name typ n p A m c):
 Calls Tryz.prog 42 #[.agg #[.pointer x]] w fun e w'=>e= .returned (.string name)∧Below w.heap.size w w':=by
 have H:=hid (get_of _ x op name typ n p A m c (h.below (b1 w (.cells #[.pointer x] 25))))
 have hf:=zzw
 clear h
 go_enter Tryz.func42,Tryz.ntmps42
 go_wp2_with fail
 refine H.out.mono ?_
 rintro e w1 ⟨rfl,hb⟩
 unfold rowV
 clear H
 go_wp2_with fail
 go_ret
 exact ⟨rfl,b1t hb⟩
theorem typ_of (w:World) (x:Option Addr) (op:Int) (name typ:ByteArray) (n p:Int) (A:Option Addr) (m c:Nat) (h:RowOf w x op name typ n p A m c):
 Calls Tryz.prog 43 #[.agg #[.pointer x]] w fun e w'=>e= .returned (.string typ)∧Below w.heap.size w w':=by
 have H:=hid (get_of _ x op name typ n p A m c (h.below (b1 w (.cells #[.pointer x] 25))))
 have hf:=row_typ
 clear h
 go_enter Tryz.func43,Tryz.ntmps43
 go_wp2_with fail
 refine H.out.mono ?_
 rintro e w1 ⟨rfl,hb⟩
 unfold rowV
 clear H
 go_wp2_with fail
 go_ret
 exact ⟨rfl,b1t hb⟩
theorem n_of (w:World) (x:Option Addr) (op:Int) (name typ:ByteArray) (n p:Int) (A:Option Addr) (m c:Nat) (h:RowOf w x op name typ n p A m c):
 Calls Tryz.prog 30 #[.agg #[.pointer x]] w fun e w'=>e= .returned (.int .i64 n)∧Below w.heap.size w w':=by
 have H:=hid (get_of _ x op name typ n p A m c (h.below (b1 w (.cells #[.pointer x] 25))))
 have hf:=row_n
 clear h
 go_enter Tryz.func30,Tryz.ntmps30
 go_wp2_with fail
 refine H.out.mono ?_
 rintro e w1 ⟨rfl,hb⟩
 unfold rowV
 clear H
 go_wp2_with fail
 go_ret
 exact ⟨rfl,b1t hb⟩
theorem at_of (w:World) (x:Option Addr) (op:Int) (name typ:ByteArray) (n p:Int) (A:Option Addr) (m c:Nat) (h:RowOf w x op name typ n p A m c):
 Calls Tryz.prog 31 #[.agg #[.pointer x]] w fun e w'=>e= .returned (.int .i64 p)∧Below w.heap.size w w':=by
 have H:=hid (get_of _ x op name typ n p A m c (h.below (b1 w (.cells #[.pointer x] 25))))
 have hf:=row_at
 clear h
 go_enter Tryz.func31,Tryz.ntmps31
 go_wp2_with fail
 refine H.out.mono ?_
 rintro e w1 ⟨rfl,hb⟩
 unfold rowV
 clear H
 go_wp2_with fail
 go_ret
 exact ⟨rfl,b1t hb⟩
theorem zw2 (w:World) (x:Option Addr) (op:Int) (name typ:ByteArray) (n p:Int) (A:Option Addr) (m c:Nat) (h:RowOf w x op name typ n p A m c):
 Calls Tryz.prog 11 #[.agg #[.pointer x]] w fun e w'=>e= .returned (.int .i64 m)∧Below w.heap.size w w':=by
 have H:=hid (get_of _ x op name typ n p A m c (h.below (b1 w (.cells #[.pointer x] 25))))
 have hf:=row_kids
 clear h
 go_enter Tryz.func11,Tryz.ntmps11
 go_wp2_with fail
 refine H.out.mono ?_
 rintro e w1 ⟨rfl,hb⟩
 unfold rowV
 clear H
 go_wp2_with fail
 go_ret
 exact ⟨rfl,b1t hb⟩
theorem NodeAt.row {ok:Nat→Prop} {pl:Nat→Nat} {w:World} {b:Nat} {t:Tree} (h:NodeAt ok pl w b t):∃ A c,RowAt w b t.op ⟨t.name.toArray⟩ ⟨t.typ.toArray⟩ t.n (pl t.pos) (.slice A t.kids.length c)∧t.kids.length≤c:=by
 cases h with
 |mk A c bs hb hok h0 h1 h2 h3 h4 h5 hc=>exact ⟨A,c,⟨hb,h0,h1,h2,h3,h4,h5⟩,hc⟩
theorem NodeAt.rowOf {ok:Nat→Prop} {pl:Nat→Nat} {w:World} {b:Nat} {t:Tree} (h:NodeAt ok pl w b t):∃ A c,RowOf w (some ⟨b,0,none⟩) t.op ⟨t.name.toArray⟩ ⟨t.typ.toArray⟩ t.n (pl t.pos) A t.kids.length c:=by
 obtain ⟨A,c,h1,-⟩:=h.row
 exact ⟨A,c,.inl ⟨b,rfl,h1⟩⟩
theorem levelOf_any (s:ByteArray) (w:World) (hS:SignsIn w):Calls Tryz.prog 237 #[.string s] w fun e w'=>e= .returned (.int .i64 (lvl s.data.toList:Nat))∧w=w':=by
 by_cases h1:s.data.toList=cOr
 ·obtain rfl:s=⟨#[124,124]⟩:=Go.WideShapes.bytes_inj h1
  go_enter Tryz.func237,Tryz.ntmps237
  go_wp2_with fail
  go_ret
  exact ⟨rfl,rfl⟩
 ·by_cases h2:s.data.toList=cAnd
  ·obtain rfl:s=⟨#[38,38]⟩:=Go.WideShapes.bytes_inj h2
   go_enter Tryz.func237,Tryz.ntmps237
   go_wp2_with fail
   go_ret
   exact ⟨rfl,rfl⟩
  ·have hv:(lvl s.data.toList:Int)=z0r (zq1 s.data.toList 1 16):=by
    unfold lvl;rw [if_neg h1,if_neg h2];have:=(levelV_nn (zq1 s.data.toList 1 16)).1;omega
   have hs2:zjg s 2=zq1 s.data.toList 1 16:=by simp [zjg]
   obtain ⟨op,hop⟩:∃ op,zq1 s.data.toList 1 16=op:=⟨_,rfl⟩
   rw [hop] at hv hs2
   rw [hv]
   have n1:(s.toList== [124,124])=false:=by rw [ByteArray.toList_eq];simpa using h1
   have n2:(s.toList== [38,38])=false:=by rw [ByteArray.toList_eq];simpa using h2
   have HS:=hid (signed_any s 2 w hS)
   have H2:=hid hs2
   clear h1 h2 hv hs2 hS hop
   by_cases h0:op=0
   ·subst h0
    go_enter Tryz.func237,Tryz.ntmps237
    go_wp2_with fail
    refine HS.out.mono ?_
    rintro e w1 ⟨rfl,rfl⟩
    rw [H2.out]
    clear HS H2
    go_wp2_with fail
    go_ret
    exact ⟨rfl,rfl⟩
   ·have hb:(op !=0)=true:=by simpa using h0
    go_enter Tryz.func237,Tryz.ntmps237
    go_wp2_with fail
    refine HS.out.mono ?_
    rintro e w1 ⟨rfl,rfl⟩
    rw [H2.out,hb]
    clear HS H2 hb h0
    go_wp2_with (go_at_call 232;refine (level_any _ _).mono ?_;rintro e w2 ⟨rfl,rfl⟩)
    go_ret
    exact ⟨rfl,rfl⟩
theorem b2 (w:World) (o o':Obj):Below w.heap.size w ((w.alloc o).alloc o'):=(b1 w o).trans ((b1 _ o').mono (by simp))
structure RowF (w:World) (b:Nat) (op:Int) (name typ:ByteArray) (n p:Int) (kv:Value):Prop extends RowAt w b op name typ n p kv where
 fr:∀ k,w.frozen? ⟨b,k,none⟩=false
theorem RowF.below {w w':World} {b:Nat} {op:Int} {name typ:ByteArray} {n p:Int} {kv:Value} (h:RowF w b op name typ n p kv) (hb:Below w.heap.size w w'):RowF w' b op name typ n p kv:=
 ⟨h.toRowAt.below hb,fun k=>(hb.frozen (p:=⟨b,k,none⟩) h.lt).trans (h.fr k)⟩
theorem RowF.new (w:World) (op:Int) (name typ:ByteArray) (n p:Int) (A:Option Addr) (m c:Nat):RowF (w.alloc (.cells #[.int .i64 op,.string name,.string typ,.int .i64 n,.int .i64 p,.slice A m c] 82)) w.heap.size op name typ n p (.slice A m c):=by
 refine ⟨⟨by simp,?_,?_,?_,?_,?_,?_⟩,?_⟩
 all_goals first|(intro k;simp [go_sem])|simp [go_sem]
theorem z1c (E:Env) (w:World) (i d op:Nat) (num:Int) (h:RD E w i d) (hi:i<E.z):
 Calls Tryz.prog 221 #[.pointer (some ⟨E.rb,0,none⟩),.agg #[.int .i64 op,.string ⟨#[]⟩,.string ⟨#[]⟩,.int .i64 num,.int .i64 0,.slice none 0 0]] w (Q E w d (VN E w.heap.size) (.ok (.mk op [] [] num i []) (i+1))):=by
 have H:=hid h
 have hr1:=h.lt
 have hf2:=zq7
 have hz:=h.zle
 have S0:=hid (ST.below (ST.refl h) (b2 w (.cells #[.int .i64 op,.string ⟨#[]⟩,.string ⟨#[]⟩,.int .i64 num,.int .i64 0,.slice none 0 0] 82) (.cells #[.pointer none] 25)))
 have F0:=hid ((RowF.new w op ⟨#[]⟩ ⟨#[]⟩ num 0 none 0 0).below (b1 _ (.cells #[.pointer none] 25)))
 have P0:=hid (PtrAt.new (w.alloc (.cells #[.int .i64 op,.string ⟨#[]⟩,.string ⟨#[]⟩,.int .i64 num,.int .i64 0,.slice none 0 0] 82)) none)
 clear h
 rw [show (w.alloc (.cells #[.int .i64 op,.string ⟨#[]⟩,.string ⟨#[]⟩,.int .i64 num,.int .i64 0,.slice none 0 0] 82)).heap.size=w.heap.size+1 by simp] at P0
 have l0:=P0.out.lt
 go_enter Tryz.func221,Tryz.ntmps221
 go_wp2_with fail
 generalize (w.alloc (.cells #[.int .i64 op,.string ⟨#[]⟩,.string ⟨#[]⟩,.int .i64 num,.int .i64 0,.slice none 0 0] 82)).alloc (.cells #[.pointer none] 25)=wa at*
 refine (zk3 E _ i d S0.out.1).mono ?_
 rintro e w1 ⟨rfl,hb⟩
 unfold tokV
 have F1:=F0.out.below hb
 have P1:=hid (P0.out.below hb)
 have S1:=hid (S0.out.below hb)
 have z1:=hb.size
 clear hb F0 P0
 have c4:=F1.h4
 have f4:=F1.fr 4
 have r1:=S1.out.1.c1
 have r2:=S1.out.1.fr 1
 have c0:=F1.h0
 have c1:=F1.h1
 have c2:=F1.h2
 have c3:=F1.h3
 have c5:=F1.h5
 clear F1
 have hne:¬ w.heap.size=E.rb:=by omega
 go_wp2_with fail
 have S2:Hid (ST E w ((w1.setCell ⟨w.heap.size,4,none⟩ (.int .i64 (E.pl i))).setCell ⟨E.rb,1,none⟩ (.int .i64 (i+1:Nat))) (i+1) d):=(ST.set H.out S1.out _ _ (Nat.le_refl _) _).setI (i+1) (by omega)
 have P2:Hid (PtrAt ((w1.setCell ⟨w.heap.size,4,none⟩ (.int .i64 (E.pl i))).setCell ⟨E.rb,1,none⟩ (.int .i64 (i+1:Nat))) (w.heap.size+1) none):=(P1.out.kept (zxf _ _ _) (by show w.heap.size+1≠w.heap.size;omega)).kept (zxf _ _ _) (by show w.heap.size+1≠E.rb;omega)
 rw [show ((i+1:Nat):Int)=(i:Int)+1 by omega] at S2 P2
 generalize (w1.setCell ⟨w.heap.size,4,none⟩ (.int .i64 (E.pl i))).setCell ⟨E.rb,1,none⟩ (.int .i64 ((i:Int)+1))=w2 at*
 refine (zzz _ _ _ _ _ _ _ _ _).mono ?_
 rintro e wz ⟨rfl,hb9,hrow⟩
 have P9:=P2.out.below hb9
 have q0:=P9.c0
 have f0:=P9.f0
 have l2:=P2.out.lt
 have HB9:=hid hb9
 have HROW:=hid hrow
 clear hb9 hrow P9
 unfold zzd
 go_wp2_with fail
 refine bodyPost_ret (v:=zzd w2.heap.size) (by unfold zzd;simp [results,Tryz.results221,go_sem,q0]) rfl ?_
 refine ⟨_,rfl,⟨_,rfl,(node_mk (ok':=fun x=>w.heap.size+1<x) (KidsIn.nil (fun x=>w.heap.size+1<x) E.pl w2) HB9.out HROW.out l2 (fun _ h _=>h) (by omega)).keep (Keeps.set _ _ _ (Nat.lt_irrefl _)) fun x hx _=>by omega⟩,ST.set H.out (S2.out.below HB9.out) _ _ (by omega) _⟩
mutual
def zxs:Tree→Nat
 | .mk _ _ _ _ _ ks=>zxz ks+1
def zxz:List Tree→Nat
 | []=>0
 |t::r=>zxs t+zxz r
end
theorem zkl (t:Tree):zxs t=zxz t.kids+1:=by cases t;rfl
theorem zvy (a b:List Tree):zxz (a++b)=zxz a+zxz b:=by
 induction a with
 |nil=>simp [zxz]
 |cons x r ih=>simp only [List.cons_append,zxz,ih];omega
theorem NodeAt.kid {ok:Nat→Prop} {pl:Nat→Nat} {w:World} {b:Nat} {t:Tree} (h:NodeAt ok pl w b t):∃ A c,RowAt w b t.op ⟨t.name.toArray⟩ ⟨t.typ.toArray⟩ t.n (pl t.pos) (.slice A t.kids.length c)∧t.kids.length≤c∧t.kids.length≤6000∧∀ k u,t.kids[k]? =some u→∃ g x,A=some ⟨g,0,none⟩∧g<w.heap.size∧ok g∧w.cell? ⟨g,k,none⟩=some (.pointer (some ⟨x,0,none⟩))∧NodeAt ok pl w x u:=by
 cases h with
 |mk A c bs hb hok h0 h1 h2 h3 h4 h5 hc hk hl hs ht=>
  refine ⟨A,c,⟨hb,h0,h1,h2,h3,h4,h5⟩,hc,hk,fun k u hu=> ?_⟩
  obtain ⟨x,hx⟩:∃ x,bs[k]? =some x:=⟨_,List.getElem?_eq_getElem (by have:=(List.getElem?_eq_some_iff.1 hu).1;rw [hl];exact this)⟩
  obtain ⟨g,hg1,hg2,hg3,hg4⟩:=hs k x hx
  exact ⟨g,x,hg1,hg2,hg3,hg4,ht k x u hx hu⟩
theorem kid_none (w:World) (x:Option Addr) (op:Int) (name typ:ByteArray) (n p:Int) (A:Option Addr) (m c:Nat) (i:Int) (h:RowOf w x op name typ n p A m c) (hi:i<0∨(m:Int)≤i):
 Calls Tryz.prog 29 #[.agg #[.pointer x],.int .i64 i] w fun e w'=>e= .returned (.agg #[.pointer none])∧Below w.heap.size w w':=by
 have H:=hid (get_of _ x op name typ n p A m c (h.below (b2 w (.cells #[.pointer x] 25) (.cells #[.pointer none] 25))))
 have hf:=row_kids
 clear h
 have hb2':=hid (b2 w (.cells #[.pointer x] 25) (.cells #[.pointer none] 25))
 have hP:=PtrAt.new (w.alloc (.cells #[.pointer x] 25)) none
 rw [show (w.alloc (.cells #[.pointer x] 25)).heap.size=w.heap.size+1 by simp] at hP
 have HP:=hid hP
 clear hP
 by_cases h0:i<0
 ·go_enter Tryz.func29,Tryz.ntmps29
  go_wp2_with fail
  generalize (w.alloc (.cells #[.pointer x] 25)).alloc (.cells #[.pointer none] 25)=wa at*
  refine H.out.mono ?_
  rintro e w1 ⟨rfl,hb⟩
  unfold rowV
  have P1:=HP.out.below hb
  have q0:=P1.c0
  have f0:=P1.f0
  have HB:=hid (hb2'.out.trans (hb.mono hb2'.out.size))
  clear H P1 HP hb
  go_wp2_with fail
  refine bodyPost_ret (v:= .agg #[.pointer none]) (by simp [results,Tryz.results29,go_sem,q0]) rfl ⟨rfl,?_⟩
  exact HB.out.setCell (p:=⟨w.heap.size+1,0,none⟩) (Nat.le_succ _) _
 ·have h1:(m:Int)≤i:=by omega
  go_enter Tryz.func29,Tryz.ntmps29
  go_wp2_with fail
  generalize (w.alloc (.cells #[.pointer x] 25)).alloc (.cells #[.pointer none] 25)=wa at*
  refine H.out.mono ?_
  rintro e w1 ⟨rfl,hb⟩
  unfold rowV
  have P1:=HP.out.below hb
  have q0:=P1.c0
  have f0:=P1.f0
  have HB:=hid (hb2'.out.trans (hb.mono hb2'.out.size))
  clear H P1 HP hb
  go_wp2_with fail
  refine bodyPost_ret (v:= .agg #[.pointer none]) (by simp [results,Tryz.results29,go_sem,q0]) rfl ⟨rfl,?_⟩
  exact HB.out.setCell (p:=⟨w.heap.size+1,0,none⟩) (Nat.le_succ _) _
theorem kid_some (w:World) (x:Option Addr) (op:Int) (name typ:ByteArray) (n p:Int) (g m c:Nat) (k nb:Nat) (h:RowOf w x op name typ n p (some ⟨g,0,none⟩) m c) (hk:k<m) (_:m≤c) (_:m≤6000) (hg:g<w.heap.size) (hc:w.cell? ⟨g,k,none⟩=some (.pointer (some ⟨nb,0,none⟩))):
 Calls Tryz.prog 29 #[.agg #[.pointer x],.int .i64 k] w fun e w'=>e= .returned (.agg #[.pointer (some ⟨nb,0,none⟩)])∧Below w.heap.size w w':=by
 have H:=hid (get_of _ x op name typ n p _ m c (h.below (b2 w (.cells #[.pointer x] 25) (.cells #[.pointer none] 25))))
 have hf:=row_kids
 clear h
 have hb2':=hid (b2 w (.cells #[.pointer x] 25) (.cells #[.pointer none] 25))
 have hP:=PtrAt.new (w.alloc (.cells #[.pointer x] 25)) none
 rw [show (w.alloc (.cells #[.pointer x] 25)).heap.size=w.heap.size+1 by simp] at hP
 have HP:=hid hP
 have HC:=hid hc
 have hi1:¬ (k:Int)<0:=by omega
 have hi2:¬ (m:Int)≤(k:Int):=by omega
 have hi3:(k:Int)<(m:Int):=by omega
 clear hP hc
 go_enter Tryz.func29,Tryz.ntmps29
 go_wp2_with fail
 generalize (w.alloc (.cells #[.pointer x] 25)).alloc (.cells #[.pointer none] 25)=wa at*
 refine H.out.mono ?_
 rintro e w1 ⟨rfl,hb⟩
 unfold rowV
 have P1:=HP.out.below hb
 have q0:=P1.c0
 have f0:=P1.f0
 have hbb:=hb2'.out.trans (hb.mono hb2'.out.size)
 have ck:=(hbb.cell (p:=⟨g,k,none⟩) hg).trans HC.out
 have HB:=hid hbb
 clear H P1 HP hb hbb
 go_wp2_with fail
 refine bodyPost_ret (v:= .agg #[.pointer (some ⟨nb,0,none⟩)]) (by simp [results,Tryz.results29,go_sem,q0]) rfl ⟨rfl,?_⟩
 exact HB.out.setCell (p:=⟨w.heap.size+1,0,none⟩) (Nat.le_succ _) _
theorem zkd {ok:Nat→Prop} {pl:Nat→Nat} {w:World} {b:Nat} {t:Tree} (h:NodeAt ok pl w b t) (k:Nat) (u:Tree) (hu:t.kids[k]? =some u):∃ nb,NodeAt ok pl w nb u∧Calls Tryz.prog 29 #[.agg #[.pointer (some ⟨b,0,none⟩)],.int .i64 k] w fun e w'=>e= .returned (.agg #[.pointer (some ⟨nb,0,none⟩)])∧Below w.heap.size w w':=by
 obtain ⟨A,c,hr,h1,h2,h3⟩:=h.kid
 obtain ⟨g,x,rfl,hg,-,hc,hn⟩:=h3 k u hu
 exact ⟨x,hn,kid_some w _ _ _ _ _ _ g _ c k x (.inl ⟨b,rfl,hr⟩) (List.getElem?_eq_some_iff.1 hu).1 h1 h2 hg hc⟩
theorem kid_out {ok:Nat→Prop} {pl:Nat→Nat} {w:World} {b:Nat} {t:Tree} (h:NodeAt ok pl w b t) (i:Int) (hi:i<0∨(t.kids.length:Int)≤i):Calls Tryz.prog 29 #[.agg #[.pointer (some ⟨b,0,none⟩)],.int .i64 i] w fun e w'=>e= .returned (.agg #[.pointer none])∧Below w.heap.size w w':=by
 obtain ⟨A,c,hr⟩:=h.rowOf
 exact kid_none w _ _ _ _ _ _ _ _ _ i hr hi
theorem size_zero' (w:World):Calls Tryz.prog 12 #[.agg #[.pointer none]] w fun e w'=>e= .returned (.int .i64 0)∧Below w.heap.size w w':=by
 go_enter Tryz.func12,Tryz.ntmps12
 go_wp2_with fail
 go_ret
 exact ⟨rfl,b1 w _⟩
def SzRel (ks:List Tree) (w:World) (v i:Value) (wr:World):Prop:=∃ k:Nat,k≤ks.length∧i= .int .i64 k∧v= .int .i64 (wrap64 (zxz (ks.take k)+1))∧Below w.heap.size w wr
theorem sizeL_take (ks:List Tree) (k:Nat) (u:Tree) (h:ks[k]? =some u):zxz (ks.take (k+1))=zxz (ks.take k)+zxs u:=by
 have hk:=(List.getElem?_eq_some_iff.1 h).1
 have e:=(List.getElem?_eq_some_iff.1 h).2
 rw [List.take_succ_eq_append_getElem hk,zvy,e]
 simp [zxz]
theorem wrap_add (a b:Int):wrap64 (wrap64 a+wrap64 b)=wrap64 (a+b):=by unfold wrap64;omega
theorem z0j (t:Tree):0<zxs t:=by rw [zkl];omega
theorem zk0 {t u:Tree} {k:Nat} (h:t.kids[k]? =some u):zxs u<zxs t:=by
 rw [zkl t]
 have h1:=sizeL_take t.kids k u h
 have h2:=zvy (t.kids.take (k+1)) (t.kids.drop (k+1))
 rw [List.take_append_drop] at h2
 omega
theorem size_any (N:Nat):∀ (t:Tree),zxs t≤N→∀ (w:World) (b:Nat) (ok:Nat→Prop) (pl:Nat→Nat),NodeAt ok pl w b t→Calls Tryz.prog 12 #[.agg #[.pointer (some ⟨b,0,none⟩)]] w fun e w'=>e= .returned (.int .i64 (wrap64 (zxs t)))∧Below w.heap.size w w':=by
 induction N with
 |zero=>intro t h;have:=z0j t;omega
 |succ N ih=>
  intro t hN w b ok pl h
  obtain ⟨A,c,hr,h1,h2,h3⟩:=h.kid
  have hb0:=hr.lt
  have c5:=hr.h5
  have hsz:(zxs t:Int)=(zxz t.kids:Int)+1:=by rw [zkl];omega
  rw [hsz]
  have HK:=hid h3
  have hkk:Hid (∀ k u,t.kids[k]? =some u→zxs u≤N):=fun k u hu=>by have:=zk0 hu;omega
  clear hr h3 h hsz hN
  obtain ⟨ks,hks⟩:∃ ks,t.kids=ks:=⟨_,rfl⟩
  rw [hks] at h1 h2 c5 HK hkk ⊢
  clear hks
  obtain ⟨m,hm⟩:∃ m,ks.length=m:=⟨_,rfl⟩
  rw [hm] at h1 h2 c5
  have HM:=hid hm
  clear hm
  go_enter Tryz.func12,Tryz.ntmps12
  go_wp2_with fail
  go_loopw [3,15] (fun v i wr=>SzRel ks w v i wr) (fun _ i _=>m - (intOf i).toNat)
  case atStart=>exact ⟨0,Nat.zero_le _,rfl,by simp [zxz,wrap64],b1 w _⟩
  case round=>
   obtain ⟨k,hk,rfl,rfl,hb⟩:=hrel
   rw [HM.out] at hk
   by_cases hlt:k<m
   ·obtain ⟨u,hu⟩:∃ u,ks[k]? =some u:=⟨_,List.getElem?_eq_getElem (by rw [HM.out];exact hlt)⟩
    obtain ⟨g,x,rfl,hg,-,hc,hn⟩:=HK.out k u hu
    have ck:=(hb.cell (p:=⟨g,k,none⟩) hg).trans hc
    have HST:=hid (sizeL_take ks k u hu)
    have HU:=hid (hkk.out k u hu)
    have HN:=hid ((hn.bl hb).bl (b1 wr (.cells #[.pointer (some ⟨x,0,none⟩)] 25)))
    have HB:=hid (hb.trans ((b1 wr (.cells #[.pointer (some ⟨x,0,none⟩)] 25)).mono hb.size))
    clear hc hn hu hb
    go_wp2_with fail
    refine (ih u HU.out _ x ok pl HN.out).mono ?_
    rintro e w1 ⟨rfl,hb1⟩
    have HB1:=hid (HB.out.trans (hb1.mono HB.out.size))
    clear hb1 ck
    go_wp2_with fail
    go_roundw
    case rel=>exact ⟨k+1,by rw [HM.out];omega,by go_num,by rw [HST.out];show Value.int .i64 _=Value.int .i64 _;rw [wrap_add];congr 2;omega,HB1.out⟩
    case measure=>simp [intOf];omega
   ·obtain rfl:k=m:=by omega
    rw [List.take_of_length_le (by rw [HM.out];exact Nat.le_refl _)]
    go_wp2_with fail
    go_ret
    exact ⟨rfl,hb⟩
inductive CR (α:Type):Type
 |ok (a:α)
 |bad (p e:Nat)
def CR.bind {α β:Type} (r:CR α) (f:α→CR β):CR β:=match r with
 | .ok a=>f a
 | .bad p e=> .bad p e
structure Sg where
 name:ByteArray
 params:List Fld
 res:ByteArray
structure Inf where
 structs:List Str
 globals:List Fld
 funs:List Sg
def tNil:ByteArray:=⟨#[110,105,108]⟩
def zkx:ByteArray:=⟨#[]⟩
def tMain:ByteArray:=⟨#[109,97,105,110]⟩
def nm (t:Tree):ByteArray:=⟨t.name.toArray⟩
def tp (t:Tree):ByteArray:=⟨t.typ.toArray⟩
def fldZ:Fld:=⟨zkx,zkx⟩
def typAt (fs:List Fld) (k:Nat):ByteArray:=(fs.getD k fldZ).typ
def sgIs (fs:List Sg) (n:ByteArray) (i:Nat):Bool:=match fs[i]? with|some s=>eqB s.name n|none=>false
def funO (x:Inf) (n:ByteArray):Option Nat:=fst (sgIs x.funs n) x.funs.length 0
def z3g (x:Inf) (n:ByteArray):Bool:=(fnd x.structs n).isSome||(plc x.globals n).isSome||(funO x n).isSome
def ptrB (t:ByteArray):Bool:=(zwg t).isSome
def fitB (a b:ByteArray):Bool:=eqB a b||(eqB a tNil&&ptrB b)
def locN (K:List Fld) (n:ByteArray):Nat→Option Nat
 |0=>none
 |i+1=>if fldIs K n i then some i else locN K n i
def locO (K:List Fld) (n:ByteArray):Option Nat:=locN K n K.length
def nd {α:Type} (p:Nat) (b:Bool) (e:Nat) (k:CR α):CR α:=if b then k else .bad p e
def varOf (x:Inf) (K:List Fld) (p:Nat) (d:Bool):Option Nat→Option Nat→CR ByteArray
 |some i,_=> .ok (typAt K i)
 |none,some g=> .ok (typAt x.globals g)
 |none,none=>nd p d 5 (.bad p 7)
def varC (x:Inf) (K:List Fld) (p:Nat) (n:ByteArray):CR ByteArray:=varOf x K p (z3g x n) (locO K n) (plc x.globals n)
def strZ:Str:=⟨zkx,[]⟩
def sgZ:Sg:=⟨zkx,[],zkx⟩
def zwi (x:Inf) (s:ByteArray):Str:=x.structs.getD ((fnd x.structs s).getD 0) strZ
def fieldOf (p:Nat) (fs:List Fld):Option Nat→CR ByteArray
 |none=> .bad p 5
 |some k=> .ok (typAt fs k)
def zjn (x:Inf) (p:Nat) (n a:ByteArray):CR ByteArray:=match zwg a with
 |none=> .bad p 7
 |some s=>fieldOf p (zwi x s).fields (plc (zwi x s).fields n)
def ptrTo (n:ByteArray):ByteArray:=⟨(42::n.data.toList).toArray⟩
def makeC (x:Inf) (p:Nat) (n:ByteArray):CR ByteArray:=nd p (z3g x n) 5 (nd p (fnd x.structs n).isSome 7 (.ok (ptrTo n)))
def z0z:List ByteArray→List Fld→Bool
 |a::r,f::fs=>fitB a f.typ&&z0z r fs
 |_,_=>true
def z0a (x:Inf) (p:Nat) (l d:Bool):Option Nat→CR Sg
 |some f=>nd p (l||d) 5 (nd p (!l) 7 (.ok (x.funs.getD f sgZ)))
 |none=>nd p (l||d) 5 (.bad p 7)
def zju (x:Inf) (K:List Fld) (p:Nat) (n:ByteArray):CR Sg:=z0a x p (locO K n).isSome (z3g x n) (funO x n)
def callC (x:Inf) (K:List Fld) (p:Nat) (n:ByteArray) (us:List ByteArray):CR ByteArray:=
 (zju x K p n).bind fun g=>nd p (us.length==g.params.length) 7 (nd p (z0z us g.params) 7 (.ok g.res))
def unT (n:Int):ByteArray:=if n=18 then zjo else tInt
def unC (p:Nat) (n:Int) (a:ByteArray):CR ByteArray:=nd p (eqB a (unT n)) 7 (.ok (unT n))
def eqMay (a b:ByteArray):Bool:=if eqB a zjo||ptrB a then fitB b a else ptrB b&&fitB a b
def binOk (n:Int) (a b:ByteArray):Bool:=(eqB a tInt&&eqB b tInt)||((n==11||n==12)&&eqMay a b)
def binT (n:Int):ByteArray:=if z0r n=3 then zjo else tInt
def binC (p:Nat) (n:Int) (a b:ByteArray):CR ByteArray:=nd p (binOk n a b) 7 (.ok (binT n))
def bothC (p:Nat) (a b:ByteArray):CR ByteArray:=nd p (eqB a zjo&&eqB b zjo) 7 (.ok zjo)
def allC:List (CR ByteArray)→CR (List ByteArray)
 | []=> .ok []
 |r::rs=>r.bind fun a=>(allC rs).bind fun us=> .ok (a::us)
def kidC (rs:List (CR ByteArray)) (i:Nat):CR ByteArray:=rs.getD i (.ok tNil)
def zj8 (x:Inf) (K:List Fld) (op:Nat) (name:List UInt8) (n:Int) (p:Nat) (rs:List (CR ByteArray)):CR ByteArray:=
 if op=15∨op=22 then .ok tInt
 else if op=16 then .ok zjo
 else if op=18 then varC x K p ⟨name.toArray⟩
 else if op=19 then makeC x p ⟨name.toArray⟩
 else if op=20 then (kidC rs 0).bind fun a=>zjn x p ⟨name.toArray⟩ a
 else if op=21 then (allC rs).bind fun us=>callC x K p ⟨name.toArray⟩ us
 else if op=23 then (kidC rs 0).bind fun a=>unC p n a
 else if op=24 then (kidC rs 0).bind fun a=>(kidC rs 1).bind fun b=>binC p n a b
 else if op=25∨op=26 then (kidC rs 0).bind fun a=>(kidC rs 1).bind fun b=>bothC p a b
 else .ok tNil
mutual
def zzt (x:Inf) (K:List Fld):Tree→CR ByteArray
 | .mk op name _ n p ks=>zj8 x K op name n p (zvb x K ks)
def zvb (x:Inf) (K:List Fld):List Tree→List (CR ByteArray)
 | []=> []
 |t::r=>zzt x K t::zvb x K r
end
theorem exprsC_map (x:Inf) (K:List Fld) (l:List Tree):zvb x K l=l.map (zzt x K):=by
 induction l with
 |nil=>rfl
 |cons a r ih=>simp only [zvb,ih,List.map_cons]
theorem zku (x:Inf) (K:List Fld) (t:Tree):zzt x K t=zj8 x K t.op t.name t.n t.pos (t.kids.map (zzt x K)):=by
 cases t with
 |mk op name typ n p ks=>simp only [zzt,exprsC_map,Tree.op,Tree.name,Tree.n,Tree.pos,Tree.kids]
def freeB (K:List Fld) (f:Nat) (n:ByteArray):Bool:= !(plc (K.drop f) n).isSome
def z2b (x:Inf) (res:ByteArray) (K:List Fld) (f:Nat) (op:Nat) (name:List UInt8) (p:Nat) (rs:List (CR ByteArray)):CR (List Fld):=
 if op=7 then (kidC rs 0).bind fun a=>nd p (freeB K f ⟨name.toArray⟩) 6 (nd p (!eqB a tNil&& !eqB a zkx) 7 (.ok (K++ [⟨⟨name.toArray⟩,a⟩])))
 else if op=8 then (kidC rs 0).bind fun a=>(varC x K p ⟨name.toArray⟩).bind fun v=>nd p (fitB a v) 7 (.ok K)
 else if op=9 then (kidC rs 0).bind fun a=>(kidC rs 1).bind fun b=>(zjn x p ⟨name.toArray⟩ a).bind fun v=>nd p (fitB b v) 7 (.ok K)
 else if op=12 then (kidC rs 0).bind fun a=>nd p (eqB a tInt) 7 (.ok K)
 else if op=13 then (if rs.length=0 then nd p (eqB res zkx) 7 (.ok K) else (kidC rs 0).bind fun a=>nd p (!eqB res zkx&&fitB a res) 7 (.ok K))
 else if op=14 then (kidC rs 0).bind fun _=> .ok K
 else .ok K
mutual
def zkf (x:Inf) (res:ByteArray):Tree→List Fld→Nat→CR (List Fld)
 | .mk op name _ _ p ks,K,f=>
   if op=6 then (zxm x res ks K K.length).bind fun _=> .ok K
   else if op=10∨op=11 then (kidC (zvb x K ks) 0).bind fun a=>nd p (eqB a zjo) 7 (z2t x res ks K f)
   else z2b x res K f op name p (zvb x K ks)
def zxm (x:Inf) (res:ByteArray):List Tree→List Fld→Nat→CR (List Fld)
 | [],K,_=> .ok K
 |t::r,K,f=>(zkf x res t K f).bind fun K'=>zxm x res r K' f
def z2t (x:Inf) (res:ByteArray):List Tree→List Fld→Nat→CR (List Fld)
 | [],K,_=> .ok K
 |_::r,K,f=>zxm x res r K f
end
theorem restC_eq (x:Inf) (res:ByteArray) (l:List Tree) (K:List Fld) (f:Nat):z2t x res l K f=zxm x res (l.drop 1) K f:=by
 cases l with
 |nil=>simp only [z2t,List.drop_nil,zxm]
 |cons a r=>simp only [z2t,List.drop_succ_cons,List.drop_zero]
theorem zkj (x:Inf) (res:ByteArray) (t:Tree) (K:List Fld) (f:Nat):zkf x res t K f=
 if t.op=6 then (zxm x res t.kids K K.length).bind fun _=> .ok K
 else if t.op=10∨t.op=11 then (kidC (t.kids.map (zzt x K)) 0).bind fun a=>nd t.pos (eqB a zjo) 7 (zxm x res (t.kids.drop 1) K f)
 else z2b x res K f t.op t.name t.pos (t.kids.map (zzt x K)):=by
 cases t with
 |mk op name typ n p ks=>simp only [zkf,exprsC_map,restC_eq,Tree.op,Tree.name,Tree.pos,Tree.kids];rfl
def zwo (t:Tree):Fld:=⟨nm t,tp t⟩
def cntP (t:Tree):Nat:=if t.op=4 then t.kids.length - 1 else t.kids.length
def zzp (t:Tree):List Fld:=(t.kids.take (cntP t)).map zwo
def addD (x:Inf) (d:Tree):Inf:=
 if d.op=2 then { x with structs:=x.structs++ [⟨nm d,zzp d⟩] }
 else if d.op=3 then { x with globals:=x.globals++ [zwo d] }
 else if d.op=4 then { x with funs:=x.funs++ [⟨nm d,zzp d,tp d⟩] }
 else x
def infZ:Inf:=⟨[],[],[]⟩
def zxo (ks:List Tree):Inf:=ks.foldl addD infZ
def nmAt (ks:List Tree) (i:Nat):ByteArray:=nm (ks.getD i Tree.zero)
def opAt (ks:List Tree) (i:Nat):Nat:=(ks.getD i Tree.zero).op
def newB (ks:List Tree) (i:Nat):Bool:= !(fst (fun j=>eqB (nmAt ks j) (nmAt ks i)) i 0).isSome
def cntN (ks:List Tree) (i:Nat):Nat→Nat
 |0=>0
 |j+1=>cntN ks i j+(if opAt ks j=opAt ks i then 1 else 0)
def mostD (op:Nat):Nat:=if op=2 then 12 else if op=3 then 12 else 24
def zwc (ks:List Tree) (i:Nat):Nat:=if newB ks i then (if cntN ks i i<mostD (opAt ks i) then 0 else 4) else 6
def mostPt (op:Nat):Nat:=if op=2 then 8 else 6
def z2y (ss:List Str) (d:Tree) (i:Nat):Nat:=if i<mostPt d.op then (if newB d.kids i then (if isT ss (tp (d.kids.getD i Tree.zero)) then 0 else 5) else 6) else 4
def firC (ks:List Tree) (g:Nat→Nat) (n:Nat):CR Unit:=match fir g n 0 with
 |(_,0)=> .ok ()
 |(i,e+1)=> .bad (ks.getD i Tree.zero).pos (e+1)
def zqp (ss:List Str) (d:Tree):CR Unit:=
 if d.op=3 then nd d.pos (isT ss (tp d)) 5 (.ok ())
 else (firC d.kids (z2y ss d) (cntP d)).bind fun _=>nd d.pos (eqB (tp d) zkx||isT ss (tp d)) 5 (.ok ())
def zja (f:Tree→CR Unit):List Tree→CR Unit
 | []=> .ok ()
 |t::r=>(f t).bind fun _=>zja f r
def zvu (x:Inf) (d:Tree):CR Unit:=
 if d.op=4 then (zxm x (tp d) (d.kids.getD (d.kids.length - 1) Tree.zero).kids (zzp d) 0).bind fun _=> .ok () else .ok ()
def mainB (x:Inf):Bool:=match funO x tMain with
 |some f=>(x.funs.getD f sgZ).params.length==0&&eqB (x.funs.getD f sgZ).res zkx
 |none=>false
def zqy (t:Tree):CR Inf:=
 (firC t.kids (zwc t.kids) t.kids.length).bind fun _=>
 (zja (zqp (zxo t.kids).structs) t.kids).bind fun _=>
 (zja (zvu (zxo t.kids)) t.kids).bind fun _=>
 nd t.pos (mainB (zxo t.kids)) 8 (.ok (zxo t.kids))
def FldAt (w:World) (b o k:Nat) (f:Fld):Prop:=w.cell? ⟨b,o+k*2,none⟩=some (.string f.name)∧w.cell? ⟨b,o+k*2+1,none⟩=some (.string f.typ)
def FR (w:World) (A:Option Addr) (fs:List Fld):Prop:=0<fs.length→∃ b o,A=some ⟨b,o,none⟩∧b<w.heap.size∧∀ k f,fs[k]? =some f→FldAt w b o k f
def StrAt (w:World) (b o i:Nat) (s:Str):Prop:=∃ A c,w.cell? ⟨b,o+i*2,none⟩=some (.string s.name)∧w.cell? ⟨b,o+i*2+1,none⟩=some (.slice A s.fields.length c)∧s.fields.length≤c∧s.fields.length≤281474976710656∧FR w A s.fields
def SR (w:World) (A:Option Addr) (ss:List Str):Prop:=0<ss.length→∃ b o,A=some ⟨b,o,none⟩∧b<w.heap.size∧∀ i s,ss[i]? =some s→StrAt w b o i s
theorem FR.below {w w':World} {B:Nat} {A:Option Addr} {fs:List Fld} (h:FR w A fs) (hb:Below B w w') (hB:w.heap.size≤B):FR w' A fs:=by
 intro h0
 obtain ⟨b,o,hA,hg,hc⟩:=h h0
 refine ⟨b,o,hA,Nat.lt_of_lt_of_le hg hb.size,fun k f hf=> ?_⟩
 obtain ⟨x,y⟩:=hc k f hf
 exact ⟨(hb.cell (p:=⟨b,o+k*2,none⟩) (Nat.lt_of_lt_of_le hg hB)).trans x,(hb.cell (p:=⟨b,o+k*2+1,none⟩) (Nat.lt_of_lt_of_le hg hB)).trans y⟩
theorem StrAt.below {w w':World} {B b o i:Nat} {s:Str} (h:StrAt w b o i s) (hg:b<w.heap.size) (hb:Below B w w') (hB:w.heap.size≤B):StrAt w' b o i s:=by
 obtain ⟨A,c,x,y,z,z2,hf⟩:=h
 exact ⟨A,c,(hb.cell (p:=⟨b,o+i*2,none⟩) (Nat.lt_of_lt_of_le hg hB)).trans x,(hb.cell (p:=⟨b,o+i*2+1,none⟩) (Nat.lt_of_lt_of_le hg hB)).trans y,z,z2,hf.below hb hB⟩
theorem SR.below {w w':World} {B:Nat} {A:Option Addr} {ss:List Str} (h:SR w A ss) (hb:Below B w w') (hB:w.heap.size≤B):SR w' A ss:=by
 intro h0
 obtain ⟨b,o,hA,hg,hc⟩:=h h0
 exact ⟨b,o,hA,Nat.lt_of_lt_of_le hg hb.size,fun k f hf=>(hc k f hf).below hg hb hB⟩
theorem SR.take {w:World} {A:Option Addr} {ss:List Str} (h:SR w A ss) (n:Nat):SR w A (ss.take n):=by
 intro h0
 obtain ⟨b,o,hA,hg,hc⟩:=h (by rw [List.length_take] at h0;omega)
 refine ⟨b,o,hA,hg,fun k f hf=>hc k f ?_⟩
 rw [List.getElem?_take] at hf
 split at hf
 ·exact hf
 ·cases hf
theorem zko {W w w1:World} (h:Below W.heap.size W w) (b:Below w.heap.size w w1):Below W.heap.size W w1:=h.trans (b.mono h.size)
theorem zxh (w:World) (A B:Array Value) (t e:TypeId) (j:Nat):((w.alloc (.cells A t)).alloc (.cells B e)).cell? ⟨w.heap.size+1,j,none⟩=B[j]? :=by
 have h:=heap_alloc_new (w.alloc (.cells A t)) (.cells B e)
 rw [show (w.alloc (.cells A t)).heap.size=w.heap.size+1 by simp] at h
 exact cell_of_row _ (w.heap.size+1) j B e (0,0) h
theorem zxa (w:World) (B:Array Value) (e:TypeId) (j:Nat):(w.alloc (.cells B e)).cell? ⟨w.heap.size,j,none⟩=B[j]? :=
 cell_of_row _ w.heap.size j B e (0,0) (heap_alloc_new w (.cells B e))
theorem below2 (w:World) (o o':Obj):Below w.heap.size w ((w.alloc o).alloc o'):=((Below.refl _ _).alloc (Nat.le_refl _) _).alloc (by simp) _
theorem heap2 (w:World) (o o':Obj):((w.alloc o).alloc o').heap.size=w.heap.size+2:=by simp
def zqt:Option Nat→Value
 |some i=> .tuple #[.int .i64 i,.bool true]
 |none=> .tuple #[.int .i64 0,.bool false]
def FRel (w:World) (f:Nat→Bool) (m:Nat) (r:Option Nat) (i:Value) (wr:World):Prop:=
 ∃ k:Nat,k≤m∧i= .int .i64 k∧Hid (fst f m k=r)∧Below w.heap.size w wr
theorem zv5 (A:Option Addr) (c m:Nat) (ss:List Str) (n:ByteArray) (r:Option Nat) (w:World) (hR:SR w A ss) (hm:Hid (ss.length=m)) (hl:m≤281474976710656) (hr:Hid (fnd ss n=r)):
 Calls Tryz.prog 52 #[.slice A m c,.string n] w fun e w'=>e= .returned (zqt r)∧Below w.heap.size w w':=by
 have HR:=hid hR
 clear hR
 have HF:Hid (fst (z0p ss n) m 0=r):=by
  show _=_
  rw [←hr.out,fnd,hm.out]
 go_enter Tryz.func52,Tryz.ntmps52
 go_wp2_with fail
 go_loopw [10] (fun i wr=>FRel w (z0p ss n) m r i wr) (fun i _=>m - (intOf i).toNat)
 case atStart=>exact ⟨0,Nat.zero_le _,rfl,HF,Below.refl _ _⟩
 case round=>
  obtain ⟨k,hk,rfl,HK,hb⟩:=hrel
  by_cases hlt:k<m
  ·obtain ⟨b,o,rfl,hg,hcs⟩:=HR.out (by have:=hm.out;omega)
   obtain ⟨s,hs⟩:∃ s,ss[k]? =some s:=⟨_,List.getElem?_eq_getElem (by have:=hm.out;omega)⟩
   obtain ⟨FA,fc,c0,c1,-⟩:=(hcs k s hs).below hg hb (Nat.le_refl _)
   have hni:=nameIs_at (n:=n) hs
   have HCS:=hid hcs
   have HS:=hid hs
   clear hcs hs
   obtain ⟨sn,sf⟩:=s
   simp only at c0 c1 hni
   cases he:eqB sn n with
   |true=>
    have hq:r=some k:=HK.out.symm.trans (zw6 hlt (hni.trans he))
    subst hq
    obtain rfl:=eqB_iff.1 he
    clear hni he
    go_wp2_with fail
    go_ret2
    exact ⟨rfl,hb.alloc hb.size _⟩
   |false=>
    have hq:fst (z0p ss n) m (k+1)=r:=(zve hlt (hni.trans he)).symm.trans HK.out
    have HQ:=hid hq
    have hsp:=zkg he
    clear hq hni he
    go_wp2_with fail
    go_roundw
    case rel=>exact ⟨k+1,by omega,by go_num,HQ,hb.alloc hb.size _⟩
    case measure=>simp [intOf];omega
  ·have hq:r=none:=HK.out.symm.trans (z2g (by omega))
   subst hq
   go_wp2_with fail
   go_ret2
   exact ⟨rfl,hb⟩
theorem place_any (sn:ByteArray) (A:Option Addr) (c m:Nat) (fs:List Fld) (n:ByteArray) (r:Option Nat) (w:World) (hR:FR w A fs) (hm:Hid (fs.length=m)) (hl:m≤281474976710656) (hr:Hid (plc fs n=r)):
 Calls Tryz.prog 117 #[.agg #[.string sn,.slice A m c],.string n] w fun e w'=>e= .returned (zqt r)∧Below w.heap.size w w':=by
 have HR:=hid hR
 clear hR
 have HF:Hid (fst (fldIs fs n) m 0=r):=by
  show _=_
  rw [←hr.out,plc,hm.out]
 go_enter Tryz.func117,Tryz.ntmps117
 go_wp2_with fail
 go_loopw [11] (fun i wr=>FRel w (fldIs fs n) m r i wr) (fun i _=>m - (intOf i).toNat)
 case atStart=>exact ⟨0,Nat.zero_le _,rfl,HF,(Below.refl _ _).alloc (Nat.le_refl _) _⟩
 case round=>
  obtain ⟨k,hk,rfl,HK,hb⟩:=hrel
  by_cases hlt:k<m
  ·obtain ⟨b,o,rfl,hg,hcs⟩:=(HR.out.below hb (Nat.le_refl _)) (by have:=hm.out;omega)
   obtain ⟨s,hs⟩:∃ s,fs[k]? =some s:=⟨_,List.getElem?_eq_getElem (by have:=hm.out;omega)⟩
   obtain ⟨c0,c1⟩:=hcs k s hs
   have hni:=z3c (n:=n) hs
   have HCS:=hid hcs
   have HS:=hid hs
   clear hcs hs
   obtain ⟨sn,sf⟩:=s
   simp only at c0 c1 hni
   cases he:eqB sn n with
   |true=>
    have hq:r=some k:=HK.out.symm.trans (zw6 hlt (hni.trans he))
    subst hq
    obtain rfl:=eqB_iff.1 he
    clear hni he
    go_wp2_with fail
    go_ret2
    exact ⟨rfl,hb.alloc hb.size _⟩
   |false=>
    have hq:fst (fldIs fs n) m (k+1)=r:=(zve hlt (hni.trans he)).symm.trans HK.out
    have HQ:=hid hq
    have hsp:=zkg he
    clear hq hni he
    go_wp2_with fail
    go_roundw
    case rel=>exact ⟨k+1,by omega,by go_num,HQ,hb.alloc hb.size _⟩
    case measure=>simp [intOf];omega
  ·have hq:r=none:=HK.out.symm.trans (z2g (by omega))
   subst hq
   go_wp2_with fail
   go_ret2
   exact ⟨rfl,hb⟩
def foundI:Option Nat→Value
 |some i=> .int .i64 i
 |none=> .int .i64 (-1)
theorem refFind_any (A:Option Addr) (c m:Nat) (ss:List Str) (n:ByteArray) (r:Option Nat) (w:World) (hR:SR w A ss) (hm:Hid (ss.length=m)) (hl:m≤281474976710656) (hr:Hid (fnd ss n=r)):
 Calls Tryz.prog 112 #[.slice A m c,.string n] w fun e w'=>e= .returned (foundI r)∧w=w':=by
 have HR:=hid hR
 clear hR
 have HF:Hid (fst (z0p ss n) m 0=r):=by
  show _=_
  rw [←hr.out,fnd,hm.out]
 go_enter Tryz.func112,Tryz.ntmps112
 go_wp2_with fail
 go_loop [5] (fun i=>∃ k:Nat,k≤m∧i= .int .i64 k∧Hid (fst (z0p ss n) m k=r)) (fun i=>m - (intOf i).toNat)
 case atStart=>exact ⟨0,Nat.zero_le _,rfl,HF⟩
 case round=>
  obtain ⟨k,hk,rfl,HK⟩:=hrel
  by_cases hlt:k<m
  ·obtain ⟨b,o,rfl,hg,hcs⟩:=HR.out (by have:=hm.out;omega)
   obtain ⟨s,hs⟩:∃ s,ss[k]? =some s:=⟨_,List.getElem?_eq_getElem (by have:=hm.out;omega)⟩
   obtain ⟨FA,fc,c0,c1,-⟩:=hcs k s hs
   have hni:=nameIs_at (n:=n) hs
   have HCS:=hid hcs
   have HS:=hid hs
   clear hcs hs
   obtain ⟨sn,sf⟩:=s
   simp only at c0 c1 hni
   cases he:eqB sn n with
   |true=>
    have hq:r=some k:=HK.out.symm.trans (zw6 hlt (hni.trans he))
    subst hq
    obtain rfl:=eqB_iff.1 he
    clear hni he
    go_wp2_with fail
    go_ret
    exact ⟨rfl,rfl⟩
   |false=>
    have hq:fst (z0p ss n) m (k+1)=r:=(zve hlt (hni.trans he)).symm.trans HK.out
    have HQ:=hid hq
    have hsp:=zkg he
    clear hq hni he
    go_wp2_with fail
    go_round
    case rel=>exact ⟨k+1,by omega,by go_num,HQ⟩
    case measure=>simp [intOf];omega
  ·have hq:r=none:=HK.out.symm.trans (z2g (by omega))
   subst hq
   go_wp2_with fail
   go_ret
   exact ⟨rfl,rfl⟩
theorem z0t {w w':World} (h:KeysIn w) (hb:Below w.heap.size w w'):KeysIn w':=by
 obtain ⟨t,fr,hg⟩:=h
 exact ⟨t,fr,(hb.block 0 (Array.getElem?_eq_some_iff.1 hg).1).trans hg⟩
theorem is_any (A:Option Addr) (c m:Nat) (ss:List Str) (t:ByteArray) (b:Bool) (w:World) (hR:Hid (SR w A ss)) (hm:Hid (ss.length=m)) (hl:m≤281474976710656) (hr:Hid (isT ss t=b)):
 Calls Tryz.prog 118 #[.slice A m c,.string t] w fun e w'=>e= .returned (.bool b)∧Below w.heap.size w w':=by
 cases h1:eqB t tInt with
 |true=>
  obtain rfl:b=true:=hr.out.symm.trans (by unfold isT;rw [h1];rfl)
  have s1:(t.toList== [105,110,116])=true:=by rw [ByteArray.toList_eq];exact h1
  clear h1 hr
  go_enter Tryz.func118,Tryz.ntmps118
  go_wp2_with fail
  go_ret
  exact ⟨rfl,Below.refl _ _⟩
 |false=>
  have s1:(t.toList== [105,110,116])=false:=by rw [ByteArray.toList_eq];exact h1
  cases h2:eqB t zjo with
  |true=>
   obtain rfl:b=true:=hr.out.symm.trans (by unfold isT;rw [h2];simp)
   have s2:(t.toList== [98,111,111,108])=true:=by rw [ByteArray.toList_eq];exact h2
   clear h1 hr h2
   go_enter Tryz.func118,Tryz.ntmps118
   go_wp2_with fail
   go_ret
   exact ⟨rfl,Below.refl _ _⟩
  |false=>
   have s2:(t.toList== [98,111,111,108])=false:=by rw [ByteArray.toList_eq];exact h2
   cases h3:z2p t with
   |false=>
    obtain rfl:b=false:=hr.out.symm.trans (by unfold isT;rw [h1,h2,h3];rfl)
    have H3:=hid h3
    clear h1 hr h2 h3
    go_enter Tryz.func118,Tryz.ntmps118
    go_wp2_with (go_at_call 159;refine (cut_no _ _ H3).mono ?_;rintro e w' ⟨rfl,rfl⟩)
    go_ret
    exact ⟨rfl,Below.refl _ _⟩
   |true=>
    have H3:=hid h3
    have hb:b=(fnd ss (z0c t)).isSome:=hr.out.symm.trans (by unfold isT;rw [h1,h2,h3];rfl)
    cases h4:fnd ss (z0c t) with
    |none=>
     obtain rfl:b=false:=by rw [hb,h4];rfl
     have H4:=hid h4
     clear h1 hr h2 h3 hb h4
     go_enter Tryz.func118,Tryz.ntmps118
     go_wp2_with (first|(go_at_call 159;refine (cut_yes _ _ H3).mono ?_;rintro e w' ⟨rfl,rfl⟩)|(go_at_call 52;refine (zv5 _ _ m ss _ none _ hR.out hm hl H4).mono ?_;rintro e w1 ⟨rfl,b1⟩;unfold zqt))
     go_ret
     exact ⟨rfl,b1⟩
    |some i=>
     obtain rfl:b=true:=by rw [hb,h4];rfl
     have H4:=hid h4
     clear h1 hr h2 h3 hb h4
     go_enter Tryz.func118,Tryz.ntmps118
     go_wp2_with (first|(go_at_call 159;refine (cut_yes _ _ H3).mono ?_;rintro e w' ⟨rfl,rfl⟩)|(go_at_call 52;refine (zv5 _ _ m ss _ (some i) _ hR.out hm hl H4).mono ?_;rintro e w1 ⟨rfl,b1⟩;unfold zqt))
     go_ret
     exact ⟨rfl,b1⟩
def SgAt (w:World) (b o i:Nat) (s:Sg):Prop:=∃ A c,w.cell? ⟨b,o+i*3,none⟩=some (.string s.name)∧w.cell? ⟨b,o+i*3+1,none⟩=some (.slice A s.params.length c)∧w.cell? ⟨b,o+i*3+2,none⟩=some (.string s.res)∧s.params.length≤c∧s.params.length≤100000∧FR w A s.params
def GR (w:World) (A:Option Addr) (fs:List Sg):Prop:=0<fs.length→∃ b o,A=some ⟨b,o,none⟩∧b<w.heap.size∧∀ i s,fs[i]? =some s→SgAt w b o i s
theorem SgAt.below {w w':World} {B b o i:Nat} {s:Sg} (h:SgAt w b o i s) (hg:b<w.heap.size) (hb:Below B w w') (hB:w.heap.size≤B):SgAt w' b o i s:=by
 obtain ⟨A,c,h0,h1,h2,h3,h4,h5⟩:=h
 exact ⟨A,c,(hb.cell (p:=⟨b,_,none⟩) (Nat.lt_of_lt_of_le hg hB)).trans h0,(hb.cell (p:=⟨b,_,none⟩) (Nat.lt_of_lt_of_le hg hB)).trans h1,(hb.cell (p:=⟨b,_,none⟩) (Nat.lt_of_lt_of_le hg hB)).trans h2,h3,h4,h5.below hb hB⟩
theorem GR.below {w w':World} {B:Nat} {A:Option Addr} {fs:List Sg} (h:GR w A fs) (hb:Below B w w') (hB:w.heap.size≤B):GR w' A fs:=fun hn=>by
 obtain ⟨b,o,h0,hg,h1⟩:=h hn
 exact ⟨b,o,h0,Nat.lt_of_lt_of_le hg hb.size,fun i s hs=>(h1 i s hs).below hg hb hB⟩
structure CE where
 w0:World
 pl:Nat→Nat
 x:Inf
 res:ByteArray
 sA:Option Addr
 gA:Option Addr
 fA:Option Addr
 sc:Nat
 gc:Nat
 fc:Nat
 sb:Nat
def CE.sV (E:CE):Value:= .slice E.sA E.x.structs.length E.sc
def CE.gV (E:CE):Value:= .slice E.gA E.x.globals.length E.gc
def CE.fV (E:CE):Value:= .slice E.fA E.x.funs.length E.fc
def infV (E:CE):Value:= .agg #[.slice E.sA E.x.structs.length E.sc,.slice E.gA E.x.globals.length E.gc,.slice E.fA E.x.funs.length E.fc]
structure IM (E:CE) (w:World):Prop where
 good:Good w
 S:SR w E.sA E.x.structs
 G:FR w E.gA E.x.globals
 F:GR w E.fA E.x.funs
 sl:E.x.structs.length≤100000
 gl:E.x.globals.length≤100000
 fl:E.x.funs.length≤100000
 sle:E.x.structs.length≤E.sc
 gle:E.x.globals.length≤E.gc
 fle:E.x.funs.length≤E.fc
theorem IM.below {E:CE} {w w':World} (h:IM E w) (hb:Below w.heap.size w w'):IM E w':=
 { h with good:=h.good.below hb,S:=h.S.below hb (Nat.le_refl _),G:=h.G.below hb (Nat.le_refl _),F:=h.F.below hb (Nat.le_refl _) }
def zqr:List Fld→List Value
 | []=> []
 |f::r=> .string f.name:: .string f.typ::zqr r
theorem cellsF_len:∀ K:List Fld,(zqr K).length=K.length*2
 | []=>rfl
 |f::r=>by simp only [zqr,List.length_cons,cellsF_len r];omega
theorem zws:∀ (K L:List Fld),zqr (K++L)=zqr K++zqr L
 | [],L=>rfl
 |f::r,L=>by simp only [List.cons_append,zqr,zws r L]
theorem cellsF_at:∀ (K:List Fld) (k:Nat) (f:Fld),K[k]? =some f→(zqr K)[k*2]? =some (.string f.name)∧(zqr K)[k*2+1]? =some (.string f.typ)
 | [],k,f,h=>by simp at h
 |g::r,0,f,h=>by obtain rfl:=Option.some.inj h;exact ⟨rfl,rfl⟩
 |g::r,k+1,f,h=>by
  have:=cellsF_at r k f h
  rw [show (k+1)*2=k*2+1+1 by omega]
  simp only [zqr,List.getElem?_cons_succ]
  exact this
structure SC (E:CE) (w:World) (v:Value) (K:List Fld) (f:Nat):Prop where
 B:Below E.w0.heap.size E.w0 w
 sb0:E.w0.heap.size≤E.sb
 lt:E.sb<w.heap.size
 c0:w.cell? ⟨E.sb,0,none⟩=some (.slice E.sA E.x.structs.length E.sc)
 c1:w.cell? ⟨E.sb,1,none⟩=some (.slice E.gA E.x.globals.length E.gc)
 c2:w.cell? ⟨E.sb,2,none⟩=some (.slice E.fA E.x.funs.length E.fc)
 c3:w.cell? ⟨E.sb,3,none⟩=some (.string E.res)
 c4:w.cell? ⟨E.sb,4,none⟩=some v
 c5:w.cell? ⟨E.sb,5,none⟩=some (.int .i64 f)
 fr:∀ k,w.frozen? ⟨E.sb,k,none⟩=false
 own:w.ownsRow E.w0.heap.size 97 2 v K.length (zqr K)
 ne:v.ownBlock≠some E.sb
 im:IM E E.w0
 kl:K.length≤100000
 fle:f≤K.length
theorem zkb {w w':World} {base size n:Nat} {e:TypeId} {v:Value} {xs:List Value} (h:w.ownsRow base e size v n xs) (hb:Below w.heap.size w w'):w'.ownsRow base e size v n xs:=
 h.kept (row:=none) ⟨hb.os,hb.tape,hb.output,hb.size,fun k hk _=>hb.block k hk⟩ (by cases v.ownBlock with|none=>exact .inl rfl|some g=>exact .inr (by simp))
theorem SC.below {E:CE} {w w':World} {v:Value} {K:List Fld} {f:Nat} (h:SC E w v K f) (hb:Below w.heap.size w w'):SC E w' v K f:=
 have c:∀ k,w'.cell? ⟨E.sb,k,none⟩=w.cell? ⟨E.sb,k,none⟩:=fun k=>hb.cell (p:=⟨E.sb,k,none⟩) h.lt
 { h with B:=h.B.trans (hb.mono h.B.size),lt:=Nat.lt_of_lt_of_le h.lt hb.size,c0:=(c 0).trans h.c0,c1:=(c 1).trans h.c1,c2:=(c 2).trans h.c2,c3:=(c 3).trans h.c3,c4:=(c 4).trans h.c4,c5:=(c 5).trans h.c5,fr:=fun k=>(hb.frozen (p:=⟨E.sb,k,none⟩) h.lt).trans (h.fr k),own:=zkb h.own hb }
theorem SC.imw {E:CE} {w:World} {v:Value} {K:List Fld} {f:Nat} (h:SC E w v K f):IM E w:=h.im.below h.B
abbrev Nd (E:CE) (b:Nat) (t:Tree):Prop:=NodeAt (fun _=>True) E.pl E.w0 b t
theorem SC.node {E:CE} {w:World} {v:Value} {K:List Fld} {f b:Nat} {t:Tree} (h:SC E w v K f) (n:Nd E b t):NodeAt (fun _=>True) E.pl w b t:=n.bl h.B
theorem zv3 {w:World} {base:Nat} {v:Value} {K:List Fld} (h:w.ownsRow base 97 2 v K.length (zqr K)):∃ A c,v= .slice A K.length c∧K.length≤c∧FR w A K:=by
 rcases h.2 with ⟨rfl,h0⟩|⟨g,cap,cur,rfl,hb,hg,hn,hc,hs,ht⟩
 ·rw [h0];exact ⟨none,0,rfl,Nat.le_refl _,fun h=>by omega⟩
 ·refine ⟨_,cap,rfl,hn,fun hp=>⟨g,0,rfl,?_,fun k f hf=> ?_⟩⟩
  ·rcases Nat.lt_or_ge g w.heap.size with h1|h1
   ·exact h1
   ·rw [Array.getElem?_eq_none h1] at hg;cases hg
  ·have hk:=(List.getElem?_eq_some_iff.1 hf).1
   have hc:=cellsF_at K k f hf
   refine ⟨?_,?_⟩
   ·rw [Nat.zero_add];exact (h.cellAt (k*2) (by omega)).trans hc.1
   ·rw [Nat.zero_add];exact (h.cellAt (k*2+1) (by omega)).trans hc.2
theorem FR.drop {w:World} {g o:Nat} {K:List Fld} (h:FR w (some ⟨g,o,none⟩) K) (f:Nat):FR w (some ⟨g,o+f*2,none⟩) (K.drop f):=fun hn=>by
 have hl:f<K.length:=by rw [List.length_drop] at hn;omega
 obtain ⟨b,o',he,hb,h1⟩:=h (by omega)
 cases he
 refine ⟨g,_,rfl,hb,fun k s hs=> ?_⟩
 rw [List.getElem?_drop] at hs
 have:=h1 _ s hs
 unfold FldAt at this ⊢
 rw [show o+f*2+k*2=o+(f+k)*2 by omega]
 exact this
theorem own_take {w:World} {base:Nat} {K:List Fld} {L:List Fld} {A:Option Addr} {c:Nat} (h:w.ownsRow base 97 2 (.slice A (K++L).length c) (K++L).length (zqr (K++L))) (hA:A.isSome):w.ownsRow base 97 2 (.slice A K.length c) K.length (zqr K):=by
 rcases h.2 with ⟨h0,h1⟩|⟨g,cap,cur,hv,hb,hg,hn,hc,hs,ht⟩
 ·simp only [Value.slice.injEq] at h0;rw [h0.1] at hA;cases hA
 ·simp only [Value.slice.injEq] at hv
  obtain ⟨rfl,-,rfl⟩:=hv
  refine ⟨cellsF_len K,.inr ⟨g,c,cur,rfl,hb,hg,by rw [List.length_append] at hn;omega,hc,hs,?_⟩⟩
  have e:=congrArg (List.take (K.length*2)) ht
  rw [List.take_take,Nat.min_eq_left (by rw [List.length_append];omega),zws] at e
  rw [e,←cellsF_len K,List.take_left']
  rfl
def cfE (p:Nat) (e:Int):Ending:= .panicked [{ v:= .iface 133 (.agg #[.int .i64 p,.int .i64 e]),recovered:=false }]
def XQ (E:CE) (w:World) (r:CR ByteArray) (e:Ending) (w':World):Prop:=Below w.heap.size w w'∧(match r with
 | .ok a=>e= .returned (.string a)
 | .bad p er=>e=cfE (E.pl p) er)
theorem cneed_ok (w:World) (x:Option Addr) (er:Int):
 Calls Tryz.prog 148 #[.agg #[.pointer x],.bool true,.int .i64 er] w fun e w'=>e= .returned (.tuple #[])∧Below w.heap.size w w':=by
 go_enter Tryz.func148,Tryz.ntmps148
 go_wp2_with fail
 first|refine bodyPost_end (v:= .tuple #[]) (by simp [results,Tryz.results148,go_sem]) rfl ?_ |refine bodyPost_ret (v:= .tuple #[]) (by simp [results,Tryz.results148,go_sem]) rfl ?_
 exact ⟨rfl,b1 _ _⟩
theorem cneed_bad {pl:Nat→Nat} {ok:Nat→Prop} (w:World) (b:Nat) (t:Tree) (er:Int) (hn:NodeAt ok pl w b t):
 Calls Tryz.prog 148 #[.agg #[.pointer (some ⟨b,0,none⟩)],.bool false,.int .i64 er] w fun e w'=>e=cfE (pl t.pos) er∧Below w.heap.size w w':=by
 have N:=hid (hn.bl (b1 w (.cells #[.pointer (some ⟨b,0,none⟩)] 25)))
 clear hn
 go_enter Tryz.func148,Tryz.ntmps148
 go_wp2_with fail
 obtain ⟨Ao,co,hro⟩:=N.out.rowOf
 refine (at_of _ _ _ _ _ _ _ _ _ _ hro).mono ?_
 rintro e w1 ⟨rfl,hb⟩
 clear hro
 go_wp2_with fail
 exact ⟨rfl,rfl,b1t hb⟩
theorem z3d (A:Option Addr) (c m:Nat) (fs:List Fld) (n:ByteArray) (r:Option Nat) (w:World) (hR:FR w A fs) (hm:Hid (fs.length=m)) (hl:m≤281474976710656) (hr:Hid (plc fs n=r)):
 Calls Tryz.prog 48 #[.slice A m c,.string n] w fun e w'=>e= .returned (zqt r)∧Below w.heap.size w w':=by
 have HR:=hid hR
 clear hR
 have HF:Hid (fst (fldIs fs n) m 0=r):=by
  show _=_
  rw [←hr.out,plc,hm.out]
 go_enter Tryz.func48,Tryz.ntmps48
 go_wp2_with fail
 go_loopw [10] (fun i wr=>FRel w (fldIs fs n) m r i wr) (fun i _=>m - (intOf i).toNat)
 case atStart=>exact ⟨0,Nat.zero_le _,rfl,HF,Below.refl _ _⟩
 case round=>
  obtain ⟨k,hk,rfl,HK,hb⟩:=hrel
  by_cases hlt:k<m
  ·obtain ⟨b,o,rfl,hg,hcs⟩:=(HR.out.below hb (Nat.le_refl _)) (by have:=hm.out;omega)
   obtain ⟨s,hs⟩:∃ s,fs[k]? =some s:=⟨_,List.getElem?_eq_getElem (by have:=hm.out;omega)⟩
   obtain ⟨c0,c1⟩:=hcs k s hs
   have hni:=z3c (n:=n) hs
   have HCS:=hid hcs
   have HS:=hid hs
   clear hcs hs
   obtain ⟨sn,sf⟩:=s
   simp only at c0 c1 hni
   cases he:eqB sn n with
   |true=>
    have hq:r=some k:=HK.out.symm.trans (zw6 hlt (hni.trans he))
    subst hq
    obtain rfl:=eqB_iff.1 he
    clear hni he
    go_wp2_with fail
    go_ret2
    exact ⟨rfl,hb.alloc hb.size _⟩
   |false=>
    have hq:fst (fldIs fs n) m (k+1)=r:=(zve hlt (hni.trans he)).symm.trans HK.out
    have HQ:=hid hq
    have hsp:=zkg he
    clear hq hni he
    go_wp2_with fail
    go_roundw
    case rel=>exact ⟨k+1,by omega,by go_num,HQ,hb.alloc hb.size _⟩
    case measure=>simp [intOf];omega
  ·have hq:r=none:=HK.out.symm.trans (z2g (by omega))
   subst hq
   go_wp2_with fail
   go_ret2
   exact ⟨rfl,hb⟩
theorem sgIs_at {fs:List Sg} {n:ByteArray} {k:Nat} {f:Sg} (h:fs[k]? =some f):sgIs fs n k=eqB f.name n:=by unfold sgIs;rw [h]
theorem zw9 (E:CE) (n:ByteArray) (r:Option Nat) (w:World) (I:IM E w) (hr:Hid (funO E.x n=r)):
 Calls Tryz.prog 22 #[infV E,.string n] w fun e w'=>e= .returned (zqt r)∧Below w.heap.size w w':=by
 obtain ⟨m,hm⟩:∃ m,E.x.funs.length=m:=⟨_,rfl⟩
 have HR:=hid I.F
 have hl:=I.fl
 unfold infV
 rw [hm] at hl ⊢
 have hm:=hid hm
 have HF:Hid (fst (sgIs E.x.funs n) m 0=r):=by
  show _=_
  rw [←hr.out,funO,hm.out]
 clear I
 go_enter Tryz.func22,Tryz.ntmps22
 go_wp2_with fail
 go_loopw [11] (fun i wr=>FRel w (sgIs E.x.funs n) m r i wr) (fun i _=>m - (intOf i).toNat)
 case atStart=>exact ⟨0,Nat.zero_le _,rfl,HF,b1 _ _⟩
 case round=>
  obtain ⟨k,hk,rfl,HK,hb⟩:=hrel
  by_cases hlt:k<m
  ·obtain ⟨b,o,hfa,hg,hcs⟩:=(HR.out.below hb (Nat.le_refl _)) (by have:=hm.out;omega)
   obtain ⟨s,hs⟩:∃ s,E.x.funs[k]? =some s:=⟨_,List.getElem?_eq_getElem (by have:=hm.out;omega)⟩
   obtain ⟨PA,pc,c0,c1,c2,-⟩:=hcs k s hs
   have hni:=sgIs_at (n:=n) hs
   rw [hfa]
   clear hcs hs hfa
   obtain ⟨sn,sp,sr⟩:=s
   simp only at c0 c1 c2 hni
   cases he:eqB sn n with
   |true=>
    have hq:r=some k:=HK.out.symm.trans (zw6 hlt (hni.trans he))
    subst hq
    obtain rfl:=eqB_iff.1 he
    clear hni he
    go_wp2_with fail
    go_ret2
    exact ⟨rfl,hb.alloc hb.size _⟩
   |false=>
    have hq:fst (sgIs E.x.funs n) m (k+1)=r:=(zve hlt (hni.trans he)).symm.trans HK.out
    have HQ:=hid hq
    have hsp:=zkg he
    clear hq hni he
    go_wp2_with fail
    go_roundw
    case rel=>exact ⟨k+1,by omega,by go_num,HQ,hb.alloc hb.size _⟩
    case measure=>simp [intOf];omega
  ·have hq:r=none:=HK.out.symm.trans (z2g (by omega))
   subst hq
   go_wp2_with fail
   go_ret2
   exact ⟨rfl,hb⟩
theorem zvr (E:CE) (n:ByteArray) (r:Option Nat) (w:World) (I:IM E w) (hr:Hid (plc E.x.globals n=r)):
 Calls Tryz.prog 23 #[infV E,.string n] w fun e w'=>e= .returned (zqt r)∧Below w.heap.size w w':=by
 obtain ⟨m,hm⟩:∃ m,E.x.globals.length=m:=⟨_,rfl⟩
 have HR:=hid (I.below (b1 w (.cells #[.slice E.sA E.x.structs.length E.sc,.slice E.gA E.x.globals.length E.gc,.slice E.fA E.x.funs.length E.fc] 44))).G
 have hl:=I.gl
 have HB:=hid (b1 w (.cells #[.slice E.sA E.x.structs.length E.sc,.slice E.gA E.x.globals.length E.gc,.slice E.fA E.x.funs.length E.fc] 44))
 unfold infV
 rw [hm] at hl HR HB ⊢
 have hm:=hid hm
 clear I
 go_enter Tryz.func23,Tryz.ntmps23
 go_wp2_with fail
 generalize w.alloc (.cells #[.slice E.sA E.x.structs.length E.sc,.slice E.gA m E.gc,.slice E.fA E.x.funs.length E.fc] 44)=wa at*
 refine (z3d _ _ _ _ _ r _ HR.out hm (by omega) hr).mono ?_
 rintro e w1 ⟨rfl,hb⟩
 cases r with
 |none=>
  unfold zqt
  go_wp2_with fail
  go_ret2
  exact ⟨rfl,HB.out.trans (hb.mono HB.out.size)⟩
 |some i=>
  unfold zqt
  go_wp2_with fail
  go_ret2
  exact ⟨rfl,HB.out.trans (hb.mono HB.out.size)⟩
def locV (K:List Fld):Option Nat→Value
 |some i=> .tuple #[.string (typAt K i),.bool true]
 |none=> .tuple #[.string ⟨#[]⟩,.bool false]
theorem typAt_at {K:List Fld} {k:Nat} {f:Fld} (h:K[k]? =some f):typAt K k=f.typ:=by
 unfold typAt;rw [List.getD_eq_getElem?_getD,h];rfl
theorem clocal_any (E:CE) (v:Value) (K:List Fld) (f:Nat) (n:ByteArray) (r:Option Nat) (w:World) (H:SC E w v K f) (hr:Hid (locO K n=r)):
 Calls Tryz.prog 210 #[.pointer (some ⟨E.sb,0,none⟩),.string n] w fun e w'=>e= .returned (locV K r)∧w=w':=by
 obtain ⟨A,c,rfl,hc,hR⟩:=zv3 H.own
 have HR:=hid hR
 have c4:=H.c4
 have hl:=H.kl
 obtain ⟨m,hm⟩:∃ m,K.length=m:=⟨_,rfl⟩
 have HL:Hid (locN K n m=r):=by rw [←hm];exact hr
 rw [hm] at c4 hl hc
 have HM:=hid hm
 clear H hR hm hr
 go_enter Tryz.func210,Tryz.ntmps210
 go_wp2_with fail
 go_loop [6] (fun i=>∃ k:Nat,k≤m∧i= .int .i64 ((k:Int) - 1)∧Hid (locN K n k=r)) (fun i=>(intOf i+1).toNat)
 case atStart=>exact ⟨m,Nat.le_refl _,by go_num,HL⟩
 case round=>
  obtain ⟨k,hk,rfl,HK⟩:=hrel
  cases k with
  |zero=>
   have hq:r=none:=HK.out.symm
   subst hq
   go_wp2_with fail
   go_ret2
   exact ⟨rfl,rfl⟩
  |succ k=>
   obtain ⟨b,o,rfl,hg,hcs⟩:=HR.out (by have:=HM.out;omega)
   obtain ⟨s,hs⟩:∃ s,K[k]? =some s:=⟨_,List.getElem?_eq_getElem (by have:=HM.out;omega)⟩
   obtain ⟨c0,c1⟩:=hcs k s hs
   have hni:=z3c (n:=n) hs
   have hty:=typAt_at hs
   have hkk:((k+1:Nat):Int) - 1=(k:Int):=by omega
   rw [hkk]
   have k0:(0:Int)≤(k:Int):=by omega
   have k1:(k:Int)<(m:Int):=by omega
   clear hcs hs hkk
   obtain ⟨sn,sf⟩:=s
   simp only at c0 c1 hni hty
   have HK':=HK.out
   unfold locN at HK'
   cases he:eqB sn n with
   |true=>
    rw [if_pos (hni.trans he)] at HK'
    subst HK'
    obtain rfl:=eqB_iff.1 he
    clear hni he HK
    go_wp2_with fail
    go_ret2
    exact ⟨by subst hty;rfl,rfl⟩
   |false=>
    rw [if_neg (by rw [hni.trans he];decide)] at HK'
    have HQ:=hid HK'
    have hsp:=zkg he
    clear hni he HK' HK hty
    go_wp2_with fail
    go_round
    case rel=>exact ⟨k,by omega,by go_num,HQ⟩
    case measure=>simp [intOf]
theorem cdecl_any (E:CE) (v:Value) (K:List Fld) (f:Nat) (n:ByteArray) (d:Bool) (w:World) (H:SC E w v K f) (hd:Hid (z3g E.x n=d)):
 Calls Tryz.prog 211 #[.pointer (some ⟨E.sb,0,none⟩),.string n] w fun e w'=>e= .returned (.bool d)∧Below w.heap.size w w':=by
 obtain ⟨a,ha⟩:∃ a,fnd E.x.structs n=a:=⟨_,rfl⟩
 obtain ⟨b,hb⟩:∃ a,plc E.x.globals n=a:=⟨_,rfl⟩
 obtain ⟨c,hc⟩:∃ a,funO E.x n=a:=⟨_,rfl⟩
 obtain rfl:d=(a.isSome||b.isSome||c.isSome):=by rw [←hd.out,z3g,ha,hb,hc]
 have HS:=hid H
 have c0:=H.c0
 have c1:=H.c1
 have c2:=H.c2
 have HA:=hid ha
 have HB:=hid hb
 have HC:=hid hc
 clear H ha hb hc hd
 have ea:zqt a= .tuple #[.int .i64 (a.getD 0:Nat),.bool a.isSome]:=by cases a<;>rfl
 have eb:zqt b= .tuple #[.int .i64 (b.getD 0:Nat),.bool b.isSome]:=by cases b<;>rfl
 have ec:zqt c= .tuple #[.int .i64 (c.getD 0:Nat),.bool c.isSome]:=by cases c<;>rfl
 generalize a.isSome=A at*
 generalize b.isSome=B at*
 generalize c.isSome=C at*
 go_enter Tryz.func211,Tryz.ntmps211
 go_wp2_with fail
 refine (zv5 _ _ _ E.x.structs n a w HS.out.imw.S (hid rfl) (by have:=HS.out.im.sl;omega) HA).mono ?_
 rintro e w1 ⟨rfl,hb1⟩
 rw [ea]
 have H1:=hid (HS.out.below hb1)
 have b1':=hid hb1
 clear hb1 HS c0 c1 c2
 have c0:=H1.out.c0
 have c1:=H1.out.c1
 have c2:=H1.out.c2
 go_wp2_with fail
 refine (zvr E n b w1 H1.out.imw HB).mono ?_
 rintro e w2 ⟨rfl,hb1⟩
 rw [eb]
 have H2:=hid (H1.out.below hb1)
 have b2':=hid (b1'.out.trans (hb1.mono b1'.out.size))
 clear hb1 H1 c0 c1 c2 b1'
 have c0:=H2.out.c0
 have c1:=H2.out.c1
 have c2:=H2.out.c2
 go_wp2_with fail
 refine (zw9 E n c w2 H2.out.imw HC).mono ?_
 rintro e w3 ⟨rfl,hb1⟩
 rw [ec]
 have b3':=hid (b2'.out.trans (hb1.mono b2'.out.size))
 clear hb1 H2 c0 c1 c2 b2'
 cases A<;>cases B<;>cases C<;>(go_wp2_with fail;go_ret;exact ⟨rfl,b3'.out⟩)
theorem cptr_any (t:ByteArray) (b:Bool) (w:World) (hK:Hid (KeysIn w)) (hb:Hid (ptrB t=b)):
 Calls Tryz.prog 209 #[.string t] w fun e w'=>e= .returned (.bool b)∧w=w':=by
 obtain ⟨r,hr⟩:∃ r,zwg t=r:=⟨_,rfl⟩
 obtain rfl:b=r.isSome:=by rw [←hb.out,ptrB,hr]
 have HE:=hid (elem_any t r w hK (hid hr))
 clear hr hb
 go_enter Tryz.func209,Tryz.ntmps209
 go_wp2_with fail
 refine HE.out.mono ?_
 rintro e w' ⟨rfl,rfl⟩
 clear HE
 cases r<;>(unfold elemV;go_wp2_with fail;go_ret;exact ⟨rfl,rfl⟩)
theorem zwr (a b:ByteArray) (r:Bool) (w:World) (hK:Hid (KeysIn w)) (hr:Hid (fitB a b=r)):
 Calls Tryz.prog 188 #[.string a,.string b] w fun e w'=>e= .returned (.bool r)∧w=w':=by
 obtain ⟨p,hp⟩:∃ r,ptrB b=r:=⟨_,rfl⟩
 have HP:=hid (cptr_any b p w hK (hid hp))
 have hr:=hr.out
 unfold fitB at hr
 rw [hp] at hr
 clear hp
 cases h1:eqB a b with
 |true=>
  rw [h1] at hr
  obtain rfl:r=true:=by rw [←hr];rfl
  have s1:=zkg h1
  clear h1 hr
  go_enter Tryz.func188,Tryz.ntmps188
  go_wp2_with fail
  go_ret
  exact ⟨rfl,rfl⟩
 |false=>
  have s1:=zkg h1
  cases h2:eqB a tNil with
  |false=>
   rw [h1,h2] at hr
   obtain rfl:r=false:=by rw [←hr];rfl
   have s2:(a.toList== [110,105,108])=false:=by rw [ByteArray.toList_eq];exact h2
   clear h1 h2 hr
   go_enter Tryz.func188,Tryz.ntmps188
   go_wp2_with fail
   go_ret
   exact ⟨rfl,rfl⟩
  |true=>
   rw [h1,h2] at hr
   obtain rfl:r=p:=by rw [←hr];simp
   have s2:(a.toList== [110,105,108])=true:=by rw [ByteArray.toList_eq];exact h2
   clear h1 h2 hr
   go_enter Tryz.func188,Tryz.ntmps188
   go_wp2_with fail
   refine HP.out.mono ?_
   rintro e w' ⟨rfl,rfl⟩
   clear HP
   go_wp2_with fail
   go_ret
   exact ⟨rfl,rfl⟩
theorem cmayEq_any (a b:ByteArray) (r:Bool) (w:World) (hK:Hid (KeysIn w)) (hr:Hid (eqMay a b=r)):
 Calls Tryz.prog 231 #[.string a,.string b] w fun e w'=>e= .returned (.bool r)∧w=w':=by
 obtain ⟨p,hp⟩:∃ r,ptrB a=r:=⟨_,rfl⟩
 obtain ⟨q,hq⟩:∃ r,ptrB b=r:=⟨_,rfl⟩
 obtain ⟨x,hx⟩:∃ r,fitB b a=r:=⟨_,rfl⟩
 obtain ⟨y,hy⟩:∃ r,fitB a b=r:=⟨_,rfl⟩
 have HP:=hid (cptr_any a p w hK (hid hp))
 have HQ:=hid (cptr_any b q w hK (hid hq))
 have HX:=hid (zwr b a x w hK (hid hx))
 have HY:=hid (zwr a b y w hK (hid hy))
 have hr:=hr.out
 unfold eqMay at hr
 rw [hp,hq,hx,hy] at hr
 clear hp hq hx hy
 cases h2:eqB a zjo with
 |true=>
  rw [h2] at hr
  obtain rfl:r=x:=by rw [←hr];simp
  have s2:(a.toList== [98,111,111,108])=true:=by rw [ByteArray.toList_eq];exact h2
  clear h2 hr
  go_enter Tryz.func231,Tryz.ntmps231
  go_wp2_with (go_at_call 188;refine HX.out.mono ?_;rintro e w' ⟨rfl,rfl⟩)
  go_ret
  exact ⟨rfl,rfl⟩
 |false=>
  have s2:(a.toList== [98,111,111,108])=false:=by rw [ByteArray.toList_eq];exact h2
  rw [h2] at hr
  cases p with
  |true=>
   obtain rfl:r=x:=by rw [←hr];simp
   clear h2 hr
   go_enter Tryz.func231,Tryz.ntmps231
   go_wp2_with (first|(go_at_call 188;refine HX.out.mono ?_;rintro e w' ⟨rfl,rfl⟩)|(go_at_call 209;refine HP.out.mono ?_;rintro e w' ⟨rfl,rfl⟩))
   go_ret
   exact ⟨rfl,rfl⟩
  |false=>
   obtain rfl:r=(q&&y):=by rw [←hr];simp
   clear h2 hr
   cases q with
   |true=>
    go_enter Tryz.func231,Tryz.ntmps231
    go_wp2_with fail
    refine HP.out.mono ?_
    rintro e w' ⟨rfl,rfl⟩
    go_wp2_with fail
    refine HQ.out.mono ?_
    rintro e w' ⟨rfl,rfl⟩
    go_wp2_with fail
    refine HY.out.mono ?_
    rintro e w' ⟨rfl,rfl⟩
    go_wp2_with fail
    go_ret
    exact ⟨rfl,rfl⟩
   |false=>
    go_enter Tryz.func231,Tryz.ntmps231
    go_wp2_with fail
    refine HP.out.mono ?_
    rintro e w' ⟨rfl,rfl⟩
    go_wp2_with fail
    refine HQ.out.mono ?_
    rintro e w' ⟨rfl,rfl⟩
    go_wp2_with fail
    go_ret
    exact ⟨rfl,rfl⟩
theorem zql (a:Act) (d:Option Tmp) (v:Value):(a.put d v).defers=a.defers:=by cases d<;>rfl
section
variable {P:Program} {ops:Array Oper} {Q:Exit→Act→World→Prop} {S:World→Prop} {fuel:Nat} {listed:Array Bool} {a:Act} {w:World}
def PutOk (Q:Exit→Act→World→Prop):Prop:=∀ c a d v w,Q (.panic c) (a.put d v) w→Q (.panic c) a w
theorem rgS (S:World→Prop) {id:Nat} (hm:P.follows .mixedOrders=true) (hS:S w.drew) (hq:PutOk Q)
 (h:S w.drew→PutOk Q→wpAnyH P .any ops Q S ops.size (Array.replicate ops.size false) a w.drew):(Code.region id ops true).wp P Q a w:=
 wp_region_held hm (h hS hq)
theorem tkS (i:Nat) (oi:Oper) {v:Value} (hq:PutOk Q) (hS:S w) (hi:ops[i]? =some oi) (hb:(Region.noSelect ops&&Region.free .any ops listed i&&(Region.ready .any ops listed).contains i&&Region.wanted oi (yielded ops a.tmps))=true)
 (hy:∀ w,S w→(execOp a.eval oi).run P w= .ok (.value v) w)
 (h:wpAnyH P .any ops Q S fuel (listed.setIfInBounds i true) (a.put oi.dst v) w):wpAnyH P .any ops Q S (fuel+1) listed a w:=by
 simp only [Bool.and_eq_true] at hb
 exact wpAnyH_take hi hb.1.1.1 hb.1.1.2 hb.1.2 (fun c a w=>hq c a _ _ w) (.inl ⟨hb.2,hy⟩) hS h
theorem skS (i:Nat) (oi:Oper) (hq:PutOk Q) (hS:S w) (hi:ops[i]? =some oi) (hb:(Region.noSelect ops&&Region.free .any ops listed i&&(Region.ready .any ops listed).contains i&& !Region.wanted oi (yielded ops a.tmps))=true)
 (h:wpAnyH P .any ops Q S fuel (listed.setIfInBounds i true) (a.put oi.dst undef) w):wpAnyH P .any ops Q S (fuel+1) listed a w:=by
 simp only [Bool.and_eq_true,Bool.not_eq_true'] at hb
 exact wpAnyH_take hi hb.1.1.1 hb.1.1.2 hb.1.2 (fun c a w=>hq c a _ _ w) (.inr ⟨hb.2,rfl⟩) hS h
theorem clS (i:Nat) (o:Oper) (ho:ops[i]? =some o) (hr:Region.ready .any ops listed= [i]) (hw:Region.wanted o (yielded ops a.tmps)=true)
 (h:∀ K':Act→World→Prop,Shut (∀ a w,S w→(S w→wpAnyH P .any ops Q S fuel (listed.setIfInBounds i true) a w)→K' a w)→Oper.wp P o a w K' Q):wpAnyH P .any ops Q S (fuel+1) listed a w:=
 wpAnyH_ready hr (by simp) (AllReadyH.cons ho (fun K hK=>by rw [if_pos hw];exact h K hK) AllReadyH.nil)
end
theorem zva {P:Program} {fn:Func} {R:Ending→World→Prop} :PutOk (bodyPost P fn R):=fun _ a d v _ h=>⟨(zql a d v).symm.trans h.1,h.2⟩
theorem zj9 {K:Act→World→Prop} {Q:Exit→Act→World→Prop} (h:PutOk Q):PutOk (Exit.then K Q):=fun c a d v w h'=>h c a d v w h'
theorem putOkI {n:Nat} {Q:Exit→Act→World→Prop} (h:PutOk Q):PutOk (Exit.inBlock n Q):=fun c a d v w h'=>h c a d v w h'
theorem zza {wa w' w'':World} {p:Addr} {x:Value} (h:Below wa.heap.size wa w') (hc:w'.cell? p=some x) (hl:p.block<wa.heap.size) (hb:Below w'.heap.size w' w''):w''.cell? p=some x:=
 (hb.cell (Nat.lt_of_lt_of_le hl h.size)).trans hc
theorem onB {w wa w' w'':World} (h:Below w.heap.size w wa) (h1:Below wa.heap.size wa w') (hb:Below w'.heap.size w' w''):Below w.heap.size w w'':=h.trans ((h1.trans (hb.mono h1.size)).mono h.size)
theorem sameB {f:Nat} {args:Array Value} {w:World} {x:Ending} (h:Calls Tryz.prog f args w fun e w'=>e=x∧w=w'):Calls Tryz.prog f args w fun e w'=>e=x∧Below w.heap.size w w':=h.mono fun _ _ h=>⟨h.1,by rw [←h.2];exact Below.refl _ _⟩
theorem cneed_any {pl:Nat→Nat} {ok:Nat→Prop} (w:World) (b:Nat) (t:Tree) (d:Bool) (er:Int) (hn:NodeAt ok pl w b t):
 Calls Tryz.prog 148 #[.agg #[.pointer (some ⟨b,0,none⟩)],.bool d,.int .i64 er] w fun e w'=>Below w.heap.size w w'∧e=(if d then .returned (.tuple #[]) else cfE (pl t.pos) er):=by
 cases d with
 |true=>exact (cneed_ok w _ er).mono fun e w' h=>⟨h.2,h.1⟩
 |false=>exact (cneed_bad w b t er hn).mono fun e w' h=>⟨h.2,h.1⟩
section
variable {E:CE} {b:Nat} {t:Tree} {wa:World}
theorem zqx (N:Nd E b t) (hB:Below E.w0.heap.size E.w0 wa) (w:World) (h:Below wa.heap.size wa w):
 Calls Tryz.prog 42 #[.agg #[.pointer (some ⟨b,0,none⟩)]] w fun e w'=>e= .returned (.string (nm t))∧Below w.heap.size w w':=by
 obtain ⟨A,c,hr⟩:=(N.bl (hB.trans (h.mono hB.size))).rowOf
 exact zjr _ _ _ _ _ _ _ _ _ _ hr
theorem cn_at (N:Nd E b t) (hB:Below E.w0.heap.size E.w0 wa) (w:World) (h:Below wa.heap.size wa w):
 Calls Tryz.prog 30 #[.agg #[.pointer (some ⟨b,0,none⟩)]] w fun e w'=>e= .returned (.int .i64 t.n)∧Below w.heap.size w w':=by
 obtain ⟨A,c,hr⟩:=(N.bl (hB.trans (h.mono hB.size))).rowOf
 exact n_of _ _ _ _ _ _ _ _ _ _ hr
theorem zqf (N:Nd E b t) (hB:Below E.w0.heap.size E.w0 wa) (w:World) (h:Below wa.heap.size wa w):
 Calls Tryz.prog 10 #[.agg #[.pointer (some ⟨b,0,none⟩)]] w fun e w'=>e= .returned (.int .i64 t.op)∧Below w.heap.size w w':=by
 obtain ⟨A,c,hr⟩:=(N.bl (hB.trans (h.mono hB.size))).rowOf
 exact zkq _ _ _ _ _ _ _ _ _ _ hr
theorem zk4 (N:Nd E b t) (hB:Below E.w0.heap.size E.w0 wa) (w:World) (h:Below wa.heap.size wa w):
 Calls Tryz.prog 11 #[.agg #[.pointer (some ⟨b,0,none⟩)]] w fun e w'=>e= .returned (.int .i64 t.kids.length)∧Below w.heap.size w w':=by
 obtain ⟨A,c,hr⟩:=(N.bl (hB.trans (h.mono hB.size))).rowOf
 exact zw2 _ _ _ _ _ _ _ _ _ _ hr
theorem z02 (N:Nd E b t) (hB:Below E.w0.heap.size E.w0 wa) (w:World) (h:Below wa.heap.size wa w):
 Calls Tryz.prog 43 #[.agg #[.pointer (some ⟨b,0,none⟩)]] w fun e w'=>e= .returned (.string (tp t))∧Below w.heap.size w w':=by
 obtain ⟨A,c,hr⟩:=(N.bl (hB.trans (h.mono hB.size))).rowOf
 exact typ_of _ _ _ _ _ _ _ _ _ _ hr
theorem cat_at (N:Nd E b t) (hB:Below E.w0.heap.size E.w0 wa) (w:World) (h:Below wa.heap.size wa w):
 Calls Tryz.prog 31 #[.agg #[.pointer (some ⟨b,0,none⟩)]] w fun e w'=>e= .returned (.int .i64 (E.pl t.pos))∧Below w.heap.size w w':=by
 obtain ⟨A,c,hr⟩:=(N.bl (hB.trans (h.mono hB.size))).rowOf
 exact at_of _ _ _ _ _ _ _ _ _ _ hr
theorem zx8 (N:Nd E b t) (hB:Below E.w0.heap.size E.w0 wa) (k:Nat) (u:Tree) (hu:t.kids[k]? =some u):∃ nb,Nd E nb u∧∀ (w:World),Below wa.heap.size wa w→
 Calls Tryz.prog 29 #[.agg #[.pointer (some ⟨b,0,none⟩)],.int .i64 k] w fun e w'=>e= .returned (.agg #[.pointer (some ⟨nb,0,none⟩)])∧Below w.heap.size w w':=by
 obtain ⟨A,c,hr,h1,h2,h3⟩:=N.kid
 obtain ⟨g,x,rfl,hg,-,hc,hn⟩:=h3 k u hu
 refine ⟨x,hn,fun w h=> ?_⟩
 have hb:=hB.trans (h.mono hB.size)
 exact kid_some w _ _ _ _ _ _ g _ c k x (.inl ⟨b,rfl,hr.below hb⟩) (List.getElem?_eq_some_iff.1 hu).1 h1 h2 (Nat.lt_of_lt_of_le hg hb.size) ((hb.cell (p:=⟨g,k,none⟩) hg).trans hc)
theorem zz2 (N:Nd E b t) (hB:Below E.w0.heap.size E.w0 wa) (d:Bool) (er:Int) (w:World) (h:Below wa.heap.size wa w):
 Calls Tryz.prog 148 #[.agg #[.pointer (some ⟨b,0,none⟩)],.bool d,.int .i64 er] w fun e w'=>Below w.heap.size w w'∧e=(if d then .returned (.tuple #[]) else cfE (E.pl t.pos) er):=
 cneed_any w b t d er (N.bl (hB.trans (h.mono hB.size)))
end
theorem fst_lt {f:Nat→Bool} {n k i:Nat} (h:fst f n k=some i):i<n:=(z1j h).2.1
theorem plc_lt {fs:List Fld} {n:ByteArray} {i:Nat} (h:plc fs n=some i):i<fs.length:=fst_lt h
theorem fnd_lt {fs:List Str} {n:ByteArray} {i:Nat} (h:fnd fs n=some i):i<fs.length:=fst_lt h
theorem locN_lt {K:List Fld} {n:ByteArray} :∀ {m i:Nat},locN K n m=some i→i<m
 |0,i,h=>by cases h
 |m+1,i,h=>by
  unfold locN at h
  split at h
  ·obtain rfl:=Option.some.inj h;omega
  ·have:=locN_lt h;omega
theorem z3b (a:Option Nat):zqt a= .tuple #[.int .i64 (a.getD 0:Nat),.bool a.isSome]:=by cases a<;>rfl
theorem SC.c {E:CE} {w w':World} {v:Value} {K:List Fld} {f:Nat} (h:SC E w v K f) (hb:Below w.heap.size w w'):SC E w' v K f:=h.below hb
theorem fld_at {w:World} {A:Option Addr} {fs:List Fld} {g:Nat} (h:FR w A fs) (hg:g<fs.length):∃ b o,A=some ⟨b,o,none⟩∧b<w.heap.size∧w.cell? ⟨b,o+g*2+1,none⟩=some (.string (typAt fs g)):=by
 obtain ⟨b,o,e,hb,h1⟩:=h (by omega)
 have:=h1 g _ (List.getElem?_eq_getElem hg)
 exact ⟨b,o,e,hb,by rw [typAt_at (List.getElem?_eq_getElem hg)];exact this.2⟩
theorem ccreation_any (E:CE) (v:Value) (K:List Fld) (f b:Nat) (t:Tree) (w:World) (H:SC E w v K f) (N:Nd E b t) (hs:(nm t).size≤65536):
 Calls Tryz.prog 204 #[.pointer (some ⟨E.sb,0,none⟩),.agg #[.pointer (some ⟨b,0,none⟩)]] w (XQ E w (makeC E.x t.pos (nm t))):=by
 have B0:=hid (b1 w (.cells #[.pointer (some ⟨b,0,none⟩)] 25))
 have H0:=hid (H.below (b1 w (.cells #[.pointer (some ⟨b,0,none⟩)] 25)))
 have U0:=hid (PtrAt.new w (some ⟨b,0,none⟩))
 have NN:=hid N
 obtain ⟨d,hd⟩:∃ d,z3g E.x (nm t)=d:=⟨_,rfl⟩
 obtain ⟨a,ha⟩:∃ d,fnd E.x.structs (nm t)=d:=⟨_,rfl⟩
 have HD:=hid hd
 have HA:=hid ha
 have HM:makeC E.x t.pos (nm t)=nd t.pos d 5 (nd t.pos a.isSome 7 (.ok (ptrTo (nm t)))):=by unfold makeC;rw [hd,ha]
 rw [HM]
 have ea:=z3b a
 generalize a.isSome=d2 at*
 clear hd ha H N HM
 go_enter Tryz.func204,Tryz.ntmps204
 go_wp2_with fail
 generalize w.alloc (.cells #[.pointer (some ⟨b,0,none⟩)] 25)=wa at*
 have u0:=U0.out.c0
 have ul:=U0.out.lt
 have sl:=H0.out.lt
 have c0:=H0.out.c0
 have c1:=H0.out.c1
 have c2:=H0.out.c2
 refine rgS (fun w'=>Below wa.heap.size wa w'∧w'.cell? ⟨w.heap.size,0,none⟩=some (.pointer (some ⟨b,0,none⟩))) (by kernel_rfl) (⟨(Below.refl _ _).drew,u0⟩) (by repeat first|exact zva|apply zj9) fun hHeld hq=> ?_
 refine tkS 0 ⟨some 7,.load 25 (.tmp 3),25,"expr.go:74",#[],none⟩ (v:= ?v1_0) hq hHeld rfl (by kernel_rfl) ?y1_0 ?_
 case y1_0=>(intro w h;try dsimp only at h);go_simp<;>with_reducible rfl
 try simp only [Act.put,List.setIfInBounds_toArray,List.set_cons_zero,List.set_cons_succ]
 refine tkS 1 ⟨some 8,.move (.tmp 0),185,"expr.go:74",#[],none⟩ (v:= ?v1_1) hq hHeld rfl (by kernel_rfl) ?y1_1 ?_
 case y1_1=>(intro w h;try dsimp only at h);go_simp<;>with_reducible rfl
 try simp only [Act.put,List.setIfInBounds_toArray,List.set_cons_zero,List.set_cons_succ]
 refine tkS 2 ⟨some 9,.load 25 (.tmp 3),25,"expr.go:74",#[],none⟩ (v:= ?v1_2) hq hHeld rfl (by kernel_rfl) ?y1_2 ?_
 case y1_2=>(intro w h;try dsimp only at h);go_simp<;>with_reducible rfl
 try simp only [Act.put,List.setIfInBounds_toArray,List.set_cons_zero,List.set_cons_succ]
 refine clS 3 ⟨some 10,.call ⟨.value (.func 42),#[.tmp 9],#[25]⟩,9,"expr.go:74",#[⟨2,.data⟩],none⟩ rfl (by kernel_rfl) (by kernel_rfl) fun Kc hK=> ?_
 go_simp
 refine (zqx NN.out H0.out.B _ hHeld.1).mono ?_
 rintro e w1 ⟨rfl,hb⟩
 refine hK.out _ _ ⟨hHeld.1.trans (hb.mono hHeld.1.size),zza hHeld.1 hHeld.2 ul hb⟩ fun hHeld=> ?_
 clear hb
 clear hK Kc
 try simp only [Act.put,List.setIfInBounds_toArray,List.set_cons_zero,List.set_cons_succ]
 refine clS 4 ⟨some 11,.call ⟨.value (.func 211),#[.tmp 8,.tmp 10],#[185,9]⟩,4,"expr.go:74",#[⟨1,.data⟩,⟨3,.data⟩,⟨3,.chain⟩],none⟩ rfl (by kernel_rfl) (by kernel_rfl) fun Kc hK=> ?_
 go_simp
 refine (cdecl_any E v K f (nm t) d _ (H0.out.below hHeld.1) HD).mono ?_
 rintro e w1 ⟨rfl,hb⟩
 refine hK.out _ _ ⟨hHeld.1.trans (hb.mono hHeld.1.size),zza hHeld.1 hHeld.2 ul hb⟩ fun hHeld=> ?_
 clear hb
 clear hK Kc
 try simp only [Act.put,List.setIfInBounds_toArray,List.set_cons_zero,List.set_cons_succ]
 refine clS 5 ⟨some 12,.call ⟨.value (.func 148),#[.tmp 7,.tmp 11,.const (Value.int IntKind.i64 5)],#[25,4,26]⟩,0,"expr.go:74",#[⟨0,.data⟩,⟨4,.data⟩,⟨4,.chain⟩],none⟩ rfl (by kernel_rfl) (by kernel_rfl) fun Kc hK=> ?_
 go_simp
 refine (zz2 NN.out H0.out.B d 5 _ hHeld.1).mono ?_
 rintro e w1 ⟨hb,he⟩
 cases d with
 |false=>obtain rfl:=he;exact ⟨rfl,onB B0.out hHeld.1 hb,rfl⟩
 |true=>
 obtain rfl:=he
 refine hK.out _ _ ⟨hHeld.1.trans (hb.mono hHeld.1.size),zza hHeld.1 hHeld.2 ul hb⟩ fun hHeld=> ?_
 clear hb
 clear hK Kc
 try simp only [Act.put,List.setIfInBounds_toArray,List.set_cons_zero,List.set_cons_succ]
 refine wpAnyH_done (by kernel_rfl) ?_ _
 go_wp2_with fail
 have u0:=hHeld.2
 have c0:=zza (Below.refl _ _) c0 sl hHeld.1
 refine rgS (fun w'=>Below wa.heap.size wa w'∧w'.cell? ⟨w.heap.size,0,none⟩=some (.pointer (some ⟨b,0,none⟩))∧w'.cell? ⟨E.sb,0,none⟩=some (.slice E.sA E.x.structs.length E.sc)) (by kernel_rfl) (⟨hHeld.1.drew,u0,c0⟩) (by repeat first|exact zva|apply zj9) fun hHeld hq=> ?_
 refine tkS 0 ⟨some 14,.move (.tmp 0),185,"expr.go:75",#[],none⟩ (v:= ?v2_0) hq hHeld rfl (by kernel_rfl) ?y2_0 ?_
 case y2_0=>(intro w h;try dsimp only at h);go_simp<;>with_reducible rfl
 try simp only [Act.put,List.setIfInBounds_toArray,List.set_cons_zero,List.set_cons_succ]
 refine tkS 1 ⟨some 15,.nilCheck (.tmp 14),0,"expr.go:75",#[⟨0,.data⟩],none⟩ (v:= ?v2_1) hq hHeld rfl (by kernel_rfl) ?y2_1 ?_
 case y2_1=>(intro w h;try dsimp only at h);go_simp<;>with_reducible rfl
 try simp only [Act.put,List.setIfInBounds_toArray,List.set_cons_zero,List.set_cons_succ]
 refine tkS 2 ⟨some 16,.fieldAddr 179 (.tmp 15) 0,0,"expr.go:75",#[⟨1,.data⟩],none⟩ (v:= ?v2_2) hq hHeld rfl (by kernel_rfl) ?y2_2 ?_
 case y2_2=>(intro w h;try dsimp only at h);go_simp<;>with_reducible rfl
 try simp only [Act.put,List.setIfInBounds_toArray,List.set_cons_zero,List.set_cons_succ]
 refine tkS 3 ⟨some 17,.fieldAddr 44 (.tmp 16) 0,0,"expr.go:75",#[⟨2,.data⟩],none⟩ (v:= ?v2_3) hq hHeld rfl (by kernel_rfl) ?y2_3 ?_
 case y2_3=>(intro w h;try dsimp only at h);go_simp<;>with_reducible rfl
 try simp only [Act.put,List.setIfInBounds_toArray,List.set_cons_zero,List.set_cons_succ]
 refine tkS 4 ⟨some 18,.load 40 (.tmp 17),40,"expr.go:75",#[⟨3,.data⟩],none⟩ (v:= ?v2_4) hq hHeld rfl (by kernel_rfl) ?y2_4 ?_
 case y2_4=>(intro w h;try dsimp only at h);go_simp<;>with_reducible rfl
 try simp only [Act.put,List.setIfInBounds_toArray,List.set_cons_zero,List.set_cons_succ]
 refine tkS 5 ⟨some 19,.load 25 (.tmp 3),25,"expr.go:75",#[],none⟩ (v:= ?v2_5) hq hHeld rfl (by kernel_rfl) ?y2_5 ?_
 case y2_5=>(intro w h;try dsimp only at h);go_simp<;>with_reducible rfl
 try simp only [Act.put,List.setIfInBounds_toArray,List.set_cons_zero,List.set_cons_succ]
 refine clS 6 ⟨some 20,.call ⟨.value (.func 42),#[.tmp 19],#[25]⟩,9,"expr.go:75",#[⟨5,.data⟩],none⟩ rfl (by kernel_rfl) (by kernel_rfl) fun Kc hK=> ?_
 go_simp
 refine (zqx NN.out H0.out.B _ hHeld.1).mono ?_
 rintro e w1 ⟨rfl,hb⟩
 refine hK.out _ _ ⟨hHeld.1.trans (hb.mono hHeld.1.size),zza hHeld.1 hHeld.2.1 ul hb,zza hHeld.1 hHeld.2.2 sl hb⟩ fun hHeld=> ?_
 clear hb
 clear hK Kc
 try simp only [Act.put,List.setIfInBounds_toArray,List.set_cons_zero,List.set_cons_succ]
 refine clS 7 ⟨some 21,.call ⟨.value (.func 52),#[.tmp 18,.tmp 20],#[40,9]⟩,57,"expr.go:75",#[⟨4,.data⟩,⟨6,.data⟩,⟨6,.chain⟩],none⟩ rfl (by kernel_rfl) (by kernel_rfl) fun Kc hK=> ?_
 go_simp
 refine (zv5 _ _ _ E.x.structs (nm t) a _ (H0.out.below hHeld.1).imw.S (hid rfl) (by have:=H0.out.im.sl;omega) HA).mono ?_
 rintro e w1 ⟨rfl,hb⟩
 rw [ea]
 refine hK.out _ _ ⟨hHeld.1.trans (hb.mono hHeld.1.size),zza hHeld.1 hHeld.2.1 ul hb,zza hHeld.1 hHeld.2.2 sl hb⟩ fun hHeld=> ?_
 clear hb
 clear hK Kc
 try simp only [Act.put,List.setIfInBounds_toArray,List.set_cons_zero,List.set_cons_succ]
 refine tkS 8 ⟨some 13,.move (.tmp 21),57,"expr.go:75",#[⟨7,.data⟩],none⟩ (v:= ?v2_8) hq hHeld rfl (by kernel_rfl) ?y2_8 ?_
 case y2_8=>(intro w h;try dsimp only at h);go_simp<;>with_reducible rfl
 try simp only [Act.put,List.setIfInBounds_toArray,List.set_cons_zero,List.set_cons_succ]
 refine tkS 9 ⟨some 22,.extract (.tmp 13) 0,3,"expr.go:75",#[⟨8,.data⟩],none⟩ (v:= ?v2_9) hq hHeld rfl (by kernel_rfl) ?y2_9 ?_
 case y2_9=>(intro w h;try dsimp only at h);go_simp<;>with_reducible rfl
 try simp only [Act.put,List.setIfInBounds_toArray,List.set_cons_zero,List.set_cons_succ]
 refine tkS 10 ⟨some 23,.extract (.tmp 13) 1,4,"expr.go:75",#[⟨8,.data⟩,{ on:=11,ground:= .gcOnly Departure.lateStores }],none⟩ (v:= ?v2_10) hq hHeld rfl (by kernel_rfl) ?y2_10 ?_
 case y2_10=>(intro w h;try dsimp only at h);go_simp<;>with_reducible rfl
 try simp only [Act.put,List.setIfInBounds_toArray,List.set_cons_zero,List.set_cons_succ]
 refine tkS 11 ⟨some 5,.assign (.tmp 22),3,"expr.go:75",#[⟨9,.data⟩,⟨7,.chain⟩,⟨0,.phase⟩,⟨1,.phase⟩,⟨2,.phase⟩,⟨3,.phase⟩,⟨4,.phase⟩,⟨5,.phase⟩,⟨6,.phase⟩,⟨7,.phase⟩,⟨8,.phase⟩,⟨9,.phase⟩,{ on:=10,ground:= .textOnly Departure.lateStores }],none⟩ (v:= ?v2_11) hq hHeld rfl (by kernel_rfl) ?y2_11 ?_
 case y2_11=>(intro w h;try dsimp only at h);go_simp<;>with_reducible rfl
 try simp only [Act.put,List.setIfInBounds_toArray,List.set_cons_zero,List.set_cons_succ]
 refine tkS 12 ⟨some 6,.assign (.tmp 23),4,"expr.go:75",#[⟨10,.data⟩,⟨11,.chain⟩,⟨0,.phase⟩,⟨1,.phase⟩,⟨2,.phase⟩,⟨3,.phase⟩,⟨4,.phase⟩,⟨5,.phase⟩,⟨6,.phase⟩,⟨7,.phase⟩,⟨8,.phase⟩,⟨9,.phase⟩,⟨10,.phase⟩,⟨11,.phase⟩],none⟩ (v:= ?v2_12) hq hHeld rfl (by kernel_rfl) ?y2_12 ?_
 case y2_12=>(intro w h;try dsimp only at h);go_simp<;>with_reducible rfl
 try simp only [Act.put,List.setIfInBounds_toArray,List.set_cons_zero,List.set_cons_succ]
 refine wpAnyH_done (by kernel_rfl) ?_ _
 go_wp2_with fail
 have u0:=hHeld.2.1
 have hh:=hid hHeld.1
 clear c0 c1 c2
 refine (zz2 NN.out H0.out.B d2 7 _ hh.out).mono ?_
 rintro e w5 ⟨hb,he⟩
 cases d2 with
 |false=>obtain rfl:=he;exact ⟨rfl,onB B0.out hh.out hb,rfl⟩
 |true=>
  obtain rfl:=he
  have u0:=zza hh.out u0 ul hb
  have hh:=hid (hh.out.trans (hb.mono hh.out.size))
  go_wp2_with fail
  refine (zqx NN.out H0.out.B _ hh.out).mono ?_
  rintro e w6 ⟨rfl,hb⟩
  have hh:=hid (hh.out.trans (hb.mono hh.out.size))
  go_wp2_with (go_at_call 162;refine (pointer_any _ _ (by omega)).mono ?_;rintro e w7 ⟨rfl,rfl⟩)
  go_ret
  exact ⟨B0.out.trans (hh.out.mono B0.out.size),rfl⟩
theorem z3h (E:CE) (v:Value) (K:List Fld) (f b:Nat) (t:Tree) (w:World) (H:SC E w v K f) (N:Nd E b t):
 Calls Tryz.prog 189 #[.pointer (some ⟨E.sb,0,none⟩),.agg #[.pointer (some ⟨b,0,none⟩)]] w (XQ E w (varC E.x K t.pos (nm t))):=by
 have B0:=hid (b1 w (.cells #[.pointer (some ⟨b,0,none⟩)] 25))
 have H0:=hid (H.below (b1 w (.cells #[.pointer (some ⟨b,0,none⟩)] 25)))
 have U0:=hid (PtrAt.new w (some ⟨b,0,none⟩))
 have NN:=hid N
 obtain ⟨d,hd⟩:∃ d,z3g E.x (nm t)=d:=⟨_,rfl⟩
 obtain ⟨a,ha⟩:∃ d,locO K (nm t)=d:=⟨_,rfl⟩
 obtain ⟨g,hg⟩:∃ d,plc E.x.globals (nm t)=d:=⟨_,rfl⟩
 have HD:=hid hd
 have HA:=hid ha
 have HG:=hid hg
 rw [show varC E.x K t.pos (nm t)=varOf E.x K t.pos d a g by unfold varC;rw [hd,ha,hg]]
 have ea:=z3b g
 clear hd ha hg H N
 go_enter Tryz.func189,Tryz.ntmps189
 go_wp2_with fail
 generalize w.alloc (.cells #[.pointer (some ⟨b,0,none⟩)] 25)=wa at*
 have u0:=U0.out.c0
 have ul:=U0.out.lt
 have sl:=H0.out.lt
 have c0:=H0.out.c0
 have c1:=H0.out.c1
 have c2:=H0.out.c2
 refine (zqx NN.out H0.out.B _ (Below.refl _ _)).mono ?_
 rintro e w1 ⟨rfl,hb⟩
 go_wp2_with fail
 refine (clocal_any E v K f (nm t) a w1 (H0.out.below hb) HA).mono ?_
 rintro e w2 ⟨rfl,rfl⟩
 cases a with
 |some i=>
  unfold locV
  go_wp2_with fail
  go_ret
  exact ⟨B0.out.trans (hb.mono B0.out.size),rfl⟩
 |none=>
  unfold locV
  have hHeld:=hb
  clear hb
  have u0:=zza (Below.refl _ _) u0 ul hHeld
  have c0:=zza (Below.refl _ _) c0 sl hHeld
  have c1:=zza (Below.refl _ _) c1 sl hHeld
  have c2:=zza (Below.refl _ _) c2 sl hHeld
  go_wp2_with fail
  refine rgS (fun w'=>Below wa.heap.size wa w'∧w'.cell? ⟨w.heap.size,0,none⟩=some (.pointer (some ⟨b,0,none⟩))∧w'.cell? ⟨E.sb,0,none⟩=some (.slice E.sA E.x.structs.length E.sc)∧w'.cell? ⟨E.sb,1,none⟩=some (.slice E.gA E.x.globals.length E.gc)∧w'.cell? ⟨E.sb,2,none⟩=some (.slice E.fA E.x.funs.length E.fc)) (by kernel_rfl) (⟨hHeld.drew,u0,c0,c1,c2⟩) (by repeat first|exact zva|apply zj9) fun hHeld hq=> ?_
  refine tkS 0 ⟨some 19,.move (.tmp 0),185,"expr.go:58",#[],none⟩ (v:= ?v3_0) hq hHeld rfl (by kernel_rfl) ?y3_0 ?_
  case y3_0=>(intro w h;try dsimp only at h);go_simp<;>with_reducible rfl
  try simp only [Act.put,List.setIfInBounds_toArray,List.set_cons_zero,List.set_cons_succ]
  refine tkS 1 ⟨some 20,.nilCheck (.tmp 19),0,"expr.go:58",#[⟨0,.data⟩],none⟩ (v:= ?v3_1) hq hHeld rfl (by kernel_rfl) ?y3_1 ?_
  case y3_1=>(intro w h;try dsimp only at h);go_simp<;>with_reducible rfl
  try simp only [Act.put,List.setIfInBounds_toArray,List.set_cons_zero,List.set_cons_succ]
  refine tkS 2 ⟨some 21,.fieldAddr 179 (.tmp 20) 0,0,"expr.go:58",#[⟨1,.data⟩],none⟩ (v:= ?v3_2) hq hHeld rfl (by kernel_rfl) ?y3_2 ?_
  case y3_2=>(intro w h;try dsimp only at h);go_simp<;>with_reducible rfl
  try simp only [Act.put,List.setIfInBounds_toArray,List.set_cons_zero,List.set_cons_succ]
  refine tkS 3 ⟨some 22,.load 44 (.tmp 21),44,"expr.go:58",#[⟨2,.data⟩],none⟩ (v:= ?v3_3) hq hHeld rfl (by kernel_rfl) ?y3_3 ?_
  case y3_3=>(intro w h;try dsimp only at h);go_simp<;>with_reducible rfl
  try simp only [Act.put,List.setIfInBounds_toArray,List.set_cons_zero,List.set_cons_succ]
  refine tkS 4 ⟨some 23,.load 25 (.tmp 3),25,"expr.go:58",#[],none⟩ (v:= ?v3_4) hq hHeld rfl (by kernel_rfl) ?y3_4 ?_
  case y3_4=>(intro w h;try dsimp only at h);go_simp<;>with_reducible rfl
  try simp only [Act.put,List.setIfInBounds_toArray,List.set_cons_zero,List.set_cons_succ]
  refine clS 5 ⟨some 24,.call ⟨.value (.func 42),#[.tmp 23],#[25]⟩,9,"expr.go:58",#[⟨4,.data⟩],none⟩ rfl (by kernel_rfl) (by kernel_rfl) fun Kc hK=> ?_
  go_simp
  refine (zqx NN.out H0.out.B _ hHeld.1).mono ?_
  rintro e w1 ⟨rfl,hb⟩
  refine hK.out _ _ ⟨hHeld.1.trans (hb.mono hHeld.1.size),zza hHeld.1 hHeld.2.1 ul hb,zza hHeld.1 hHeld.2.2.1 sl hb,zza hHeld.1 hHeld.2.2.2.1 sl hb,zza hHeld.1 hHeld.2.2.2.2 sl hb⟩ fun hHeld=> ?_
  clear hb
  clear hK Kc
  try simp only [Act.put,List.setIfInBounds_toArray,List.set_cons_zero,List.set_cons_succ]
  refine clS 6 ⟨some 25,.call ⟨.value (.func 23),#[.tmp 22,.tmp 24],#[44,9]⟩,57,"expr.go:58",#[⟨3,.data⟩,⟨5,.data⟩,⟨5,.chain⟩],none⟩ rfl (by kernel_rfl) (by kernel_rfl) fun Kc hK=> ?_
  go_simp
  refine (zvr E (nm t) g _ (H0.out.below hHeld.1).imw HG).mono ?_
  rintro e w1 ⟨rfl,hb⟩
  rw [ea]
  refine hK.out _ _ ⟨hHeld.1.trans (hb.mono hHeld.1.size),zza hHeld.1 hHeld.2.1 ul hb,zza hHeld.1 hHeld.2.2.1 sl hb,zza hHeld.1 hHeld.2.2.2.1 sl hb,zza hHeld.1 hHeld.2.2.2.2 sl hb⟩ fun hHeld=> ?_
  clear hb
  clear hK Kc
  try simp only [Act.put,List.setIfInBounds_toArray,List.set_cons_zero,List.set_cons_succ]
  refine tkS 7 ⟨some 18,.move (.tmp 25),57,"expr.go:58",#[⟨6,.data⟩],none⟩ (v:= ?v3_7) hq hHeld rfl (by kernel_rfl) ?y3_7 ?_
  case y3_7=>(intro w h;try dsimp only at h);go_simp<;>with_reducible rfl
  try simp only [Act.put,List.setIfInBounds_toArray,List.set_cons_zero,List.set_cons_succ]
  refine tkS 8 ⟨some 26,.extract (.tmp 18) 0,3,"expr.go:58",#[⟨7,.data⟩],none⟩ (v:= ?v3_8) hq hHeld rfl (by kernel_rfl) ?y3_8 ?_
  case y3_8=>(intro w h;try dsimp only at h);go_simp<;>with_reducible rfl
  try simp only [Act.put,List.setIfInBounds_toArray,List.set_cons_zero,List.set_cons_succ]
  refine tkS 9 ⟨some 27,.extract (.tmp 18) 1,4,"expr.go:58",#[⟨7,.data⟩,{ on:=10,ground:= .gcOnly Departure.lateStores }],none⟩ (v:= ?v3_9) hq hHeld rfl (by kernel_rfl) ?y3_9 ?_
  case y3_9=>(intro w h;try dsimp only at h);go_simp<;>with_reducible rfl
  try simp only [Act.put,List.setIfInBounds_toArray,List.set_cons_zero,List.set_cons_succ]
  refine tkS 10 ⟨some 7,.assign (.tmp 26),3,"expr.go:58",#[⟨8,.data⟩,⟨6,.chain⟩,⟨0,.phase⟩,⟨1,.phase⟩,⟨2,.phase⟩,⟨3,.phase⟩,⟨4,.phase⟩,⟨5,.phase⟩,⟨6,.phase⟩,⟨7,.phase⟩,⟨8,.phase⟩,{ on:=9,ground:= .textOnly Departure.lateStores }],none⟩ (v:= ?v3_10) hq hHeld rfl (by kernel_rfl) ?y3_10 ?_
  case y3_10=>(intro w h;try dsimp only at h);go_simp<;>with_reducible rfl
  try simp only [Act.put,List.setIfInBounds_toArray,List.set_cons_zero,List.set_cons_succ]
  refine tkS 11 ⟨some 8,.assign (.tmp 27),4,"expr.go:58",#[⟨9,.data⟩,⟨10,.chain⟩,⟨0,.phase⟩,⟨1,.phase⟩,⟨2,.phase⟩,⟨3,.phase⟩,⟨4,.phase⟩,⟨5,.phase⟩,⟨6,.phase⟩,⟨7,.phase⟩,⟨8,.phase⟩,⟨9,.phase⟩,⟨10,.phase⟩],none⟩ (v:= ?v3_11) hq hHeld rfl (by kernel_rfl) ?y3_11 ?_
  case y3_11=>(intro w h;try dsimp only at h);go_simp<;>with_reducible rfl
  try simp only [Act.put,List.setIfInBounds_toArray,List.set_cons_zero,List.set_cons_succ]
  refine wpAnyH_done (by kernel_rfl) ?_ _
  cases g with
  |some j=>
   have c1:=hHeld.2.2.2.1
   have hgl:=plc_lt HG.out
   have hgc:=H0.out.im.gle
   have hgm:=H0.out.im.gl
   obtain ⟨gb,go,hga,-,hcell⟩:=fld_at (H0.out.below hHeld.1).imw.G hgl
   have hh:=hid hHeld.1
   rw [hga] at c1 ⊢
   clear hHeld hga
   generalize E.x.globals.length=gm at*
   simp only [Option.getD_some,Option.isSome_some]
   go_wp2_with fail
   go_ret
   exact ⟨B0.out.trans (hh.out.mono B0.out.size),rfl⟩
  |none=>
   have u0:=hHeld.2.1
   have hh:=hHeld.1
   clear hHeld
   go_wp2_with fail
   refine rgS (fun w'=>Below wa.heap.size wa w'∧w'.cell? ⟨w.heap.size,0,none⟩=some (.pointer (some ⟨b,0,none⟩))) (by kernel_rfl) (⟨hh.drew,u0⟩) (by repeat first|exact zva|apply zj9) fun hHeld hq=> ?_
   refine tkS 0 ⟨some 38,.load 25 (.tmp 3),25,"expr.go:61",#[],none⟩ (v:= ?v4_0) hq hHeld rfl (by kernel_rfl) ?y4_0 ?_
   case y4_0=>(intro w h;try dsimp only at h);go_simp<;>with_reducible rfl
   try simp only [Act.put,List.setIfInBounds_toArray,List.set_cons_zero,List.set_cons_succ]
   refine tkS 1 ⟨some 39,.move (.tmp 0),185,"expr.go:61",#[],none⟩ (v:= ?v4_1) hq hHeld rfl (by kernel_rfl) ?y4_1 ?_
   case y4_1=>(intro w h;try dsimp only at h);go_simp<;>with_reducible rfl
   try simp only [Act.put,List.setIfInBounds_toArray,List.set_cons_zero,List.set_cons_succ]
   refine tkS 2 ⟨some 40,.load 25 (.tmp 3),25,"expr.go:61",#[],none⟩ (v:= ?v4_2) hq hHeld rfl (by kernel_rfl) ?y4_2 ?_
   case y4_2=>(intro w h;try dsimp only at h);go_simp<;>with_reducible rfl
   try simp only [Act.put,List.setIfInBounds_toArray,List.set_cons_zero,List.set_cons_succ]
   refine clS 3 ⟨some 41,.call ⟨.value (.func 42),#[.tmp 40],#[25]⟩,9,"expr.go:61",#[⟨2,.data⟩],none⟩ rfl (by kernel_rfl) (by kernel_rfl) fun Kc hK=> ?_
   go_simp
   refine (zqx NN.out H0.out.B _ hHeld.1).mono ?_
   rintro e w1 ⟨rfl,hb⟩
   refine hK.out _ _ ⟨hHeld.1.trans (hb.mono hHeld.1.size),zza hHeld.1 hHeld.2 ul hb⟩ fun hHeld=> ?_
   clear hb
   clear hK Kc
   try simp only [Act.put,List.setIfInBounds_toArray,List.set_cons_zero,List.set_cons_succ]
   refine clS 4 ⟨some 42,.call ⟨.value (.func 211),#[.tmp 39,.tmp 41],#[185,9]⟩,4,"expr.go:61",#[⟨1,.data⟩,⟨3,.data⟩,⟨3,.chain⟩],none⟩ rfl (by kernel_rfl) (by kernel_rfl) fun Kc hK=> ?_
   go_simp
   refine (cdecl_any E v K f (nm t) d _ (H0.out.below hHeld.1) HD).mono ?_
   rintro e w1 ⟨rfl,hb⟩
   refine hK.out _ _ ⟨hHeld.1.trans (hb.mono hHeld.1.size),zza hHeld.1 hHeld.2 ul hb⟩ fun hHeld=> ?_
   clear hb
   clear hK Kc
   try simp only [Act.put,List.setIfInBounds_toArray,List.set_cons_zero,List.set_cons_succ]
   refine clS 5 ⟨some 43,.call ⟨.value (.func 148),#[.tmp 38,.tmp 42,.const (Value.int IntKind.i64 5)],#[25,4,26]⟩,0,"expr.go:61",#[⟨0,.data⟩,⟨4,.data⟩,⟨4,.chain⟩],none⟩ rfl (by kernel_rfl) (by kernel_rfl) fun Kc hK=> ?_
   go_simp
   refine (zz2 NN.out H0.out.B d 5 _ hHeld.1).mono ?_
   rintro e w1 ⟨hb,he⟩
   cases d with
   |false=>obtain rfl:=he;exact ⟨rfl,onB B0.out hHeld.1 hb,rfl⟩
   |true=>
   obtain rfl:=he
   refine hK.out _ _ ⟨hHeld.1.trans (hb.mono hHeld.1.size),zza hHeld.1 hHeld.2 ul hb⟩ fun hHeld=> ?_
   clear hb
   clear hK Kc
   try simp only [Act.put,List.setIfInBounds_toArray,List.set_cons_zero,List.set_cons_succ]
   refine wpAnyH_done (by kernel_rfl) ?_ _
   have u0:=hHeld.2
   go_wp2_with fail
   refine (cat_at NN.out H0.out.B _ hHeld.1).mono ?_
   rintro e w6 ⟨rfl,hb⟩
   go_wp2_with fail
   exact ⟨rfl,onB B0.out hHeld.1 hb,rfl⟩
end Go.Proofs.YtkahbhfbgdbnfaaGreatDoor
