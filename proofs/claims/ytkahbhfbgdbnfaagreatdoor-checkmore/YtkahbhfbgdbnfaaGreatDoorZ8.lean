/- CONTRACTS: isNewName, countAhead, mostOf, mostParts, checkNames of package check. Of what was there nothing has turned. -/
import Derived.Test.YtkahbhfbgdbnfaaGreatDoorZ7
import Derived.Deep.CutRange
import Derived.Test.YtkahbhfbgdbnfaaGreatDoorZ6
import Derived.Defers
import Derived.Recover
set_option maxRecDepth 100000
set_option maxHeartbeats 1000000
namespace Go.Proofs.YtkahbhfbgdbnfaaGreatDoor
open Go.Lib (hid)
open Go.RowKit
theorem z2a {ks:List Tree} {k:Nat} {u:Tree} (h:ks[k]? =some u):nmAt ks k=nm u:=by unfold nmAt;rw [List.getD_eq_getElem?_getD,h];rfl
theorem opAt_at {ks:List Tree} {k:Nat} {u:Tree} (h:ks[k]? =some u):opAt ks k=u.op:=by unfold opAt;rw [List.getD_eq_getElem?_getD,h];rfl
theorem cntN_le (ks:List Tree) (i:Nat):∀ k,cntN ks i k≤k
 |0=>Nat.le_refl _
 |k+1=>by unfold cntN;have:=cntN_le ks i k;split<;>omega
def UQ (E:CE) (w:World) (r:CR Unit) (e:Ending) (w':World):Prop:=Below w.heap.size w w'∧(match r with
 | .ok _=>e= .returned (.tuple #[])
 | .bad p er=>e=cfE (E.pl p) er)
def firR (ks:List Tree):Nat×Nat→CR Unit
 |(_,0)=> .ok ()
 |(i,e+1)=> .bad (ks.getD i Tree.zero).pos (e+1)
theorem firC_eq (ks:List Tree) (g:Nat→Nat) (n:Nat):firC ks g n=firR ks (fir g n 0):=by
 unfold firC firR;rfl
theorem uq_bad {E:CE} {w w':World} {r:CR Unit} {p er:Nat} {e:Int} (h:Below w.heap.size w w') (hr:r= .bad p er) (he:(er:Int)=e):UQ E w r (cfE (E.pl p) e) w':=⟨h,by rw [hr,←he]⟩
def NRel (w:World) (g:Nat→Nat) (m:Nat) (r:Nat×Nat) (i:Value) (wr:World):Prop:=
 ∃ k:Nat,k≤m∧i= .int .i64 k∧Hid (fir g m k=r)∧Below w.heap.size w wr
theorem cnew_any (E:CE) (b:Nat) (t:Tree) (w:World) (N:Nd E b t) (hB:Below E.w0.heap.size E.w0 w) (p:Nat) (dp:Tree) (hp:t.kids[p]? =some dp):
 Calls Tryz.prog 149 #[.agg #[.pointer (some ⟨b,0,none⟩)],.int .i64 p] w fun e w'=>e= .returned (.bool (newB t.kids p))∧Below w.heap.size w w':=by
 have B0:=hid (b1 w (.cells #[.pointer (some ⟨b,0,none⟩)] 25))
 have HB0:=hid (hB.trans ((b1 w (.cells #[.pointer (some ⟨b,0,none⟩)] 25)).mono hB.size))
 have U0:=hid (PtrAt.new w (some ⟨b,0,none⟩))
 have NN:=hid N
 have hp6:p<6000:=by obtain ⟨-,-,-,-,h,-⟩:=N.kid;have:=(List.getElem?_eq_some_iff.1 hp).1;omega
 have hpl:=(List.getElem?_eq_some_iff.1 hp).1
 obtain ⟨np,hnp,hkp⟩:=zx8 N HB0.out p dp hp
 have NP:=hid hnp
 have KP:=hid hkp
 obtain ⟨r,hr⟩:∃ r,fst (fun j=>eqB (nmAt t.kids j) (nmAt t.kids p)) p 0=r:=⟨_,rfl⟩
 have HR:=hid hr
 rw [show newB t.kids p= !r.isSome by unfold newB;rw [hr]]
 have HNP:Hid (nmAt t.kids p=nm dp):=z2a hp
 clear N hnp hkp hr hp
 go_enter Tryz.func149,Tryz.ntmps149
 go_wp2_with fail
 generalize w.alloc (.cells #[.pointer (some ⟨b,0,none⟩)] 25)=wa at*
 have u0:=U0.out.c0
 have ul:=U0.out.lt
 go_loopw [7] (fun i wr=>FRel wa (fun j=>eqB (nmAt t.kids j) (nmAt t.kids p)) p r i wr) (fun i _=>p - (intOf i).toNat)
 case atStart=>exact ⟨0,Nat.zero_le _,rfl,HR,Below.refl _ _⟩
 case round=>
  obtain ⟨k,hk,rfl,HK,hb0⟩:=hrel
  have HB:=hid hb0
  by_cases hlt:k<p
  ·obtain ⟨u,hu⟩:∃ u,t.kids[k]? =some u:=⟨_,List.getElem?_eq_getElem (by omega)⟩
   obtain ⟨nb,hn,hkd⟩:=zx8 NN.out HB0.out k u hu
   have N1:=hid hn
   have KD:=hid hkd
   have HNK:Hid (nmAt t.kids k=nm u):=z2a hu
   have ur:=zza (Below.refl _ _) u0 ul hb0
   have ulr:=Nat.lt_of_lt_of_le ul hb0.size
   obtain ⟨d,hd⟩:∃ d,eqB (nm u) (nm dp)=d:=⟨_,rfl⟩
   have hsp:=zkg hd
   have HD:Hid (eqB (nmAt t.kids k) (nmAt t.kids p)=d):=by show _=_;rw [HNK.out,HNP.out];exact hd
   clear hu hn hkd hb0 hd
   go_wp2_with fail
   refine rgS (fun w'=>Below wr.heap.size wr w'∧w'.cell? ⟨w.heap.size,0,none⟩=some (.pointer (some ⟨b,0,none⟩))) (by kernel_rfl) (⟨(Below.refl _ _).drew,ur⟩) (fun _ a d v _ h=>And.intro ((zql a d v).symm.trans (And.left h)) (And.right h)) fun hHeld hq=> ?_
   refine tkS 0 ⟨some 10,.load 25 (.tmp 2),25,"declare.go:87",#[],none⟩ (v:= ?v1_0) hq hHeld rfl (by kernel_rfl) ?y1_0 ?_
   case y1_0=>(intro w h;try dsimp only at h);go_simp<;>with_reducible rfl
   try simp only [Act.put,List.setIfInBounds_toArray,List.set_cons_zero,List.set_cons_succ]
   refine tkS 1 ⟨some 11,.move (.tmp 5),3,"declare.go:87",#[],none⟩ (v:= ?v1_1) hq hHeld rfl (by kernel_rfl) ?y1_1 ?_
   case y1_1=>(intro w h;try dsimp only at h);go_simp<;>with_reducible rfl
   try simp only [Act.put,List.setIfInBounds_toArray,List.set_cons_zero,List.set_cons_succ]
   refine tkS 4 ⟨some 14,.load 25 (.tmp 2),25,"declare.go:87",#[],none⟩ (v:= ?v1_4) hq hHeld rfl (by kernel_rfl) ?y1_4 ?_
   case y1_4=>(intro w h;try dsimp only at h);go_simp<;>with_reducible rfl
   try simp only [Act.put,List.setIfInBounds_toArray,List.set_cons_zero,List.set_cons_succ]
   refine tkS 5 ⟨some 15,.move (.tmp 1),3,"declare.go:87",#[],none⟩ (v:= ?v1_5) hq hHeld rfl (by kernel_rfl) ?y1_5 ?_
   case y1_5=>(intro w h;try dsimp only at h);go_simp<;>with_reducible rfl
   try simp only [Act.put,List.setIfInBounds_toArray,List.set_cons_zero,List.set_cons_succ]
   refine clS 2 ⟨some 12,.call ⟨.value (.func 29),#[.tmp 10,.tmp 11],#[25,3]⟩,25,"declare.go:87",#[⟨0,.data⟩,⟨1,.data⟩],none⟩ rfl (by kernel_rfl) (by kernel_rfl) fun Kc hK=> ?_
   go_simp
   refine (KD.out _ (HB.out.trans (hHeld.1.mono HB.out.size))).mono ?_
   rintro e w1 ⟨rfl,hb⟩
   refine hK.out _ _ ⟨hHeld.1.trans (hb.mono hHeld.1.size),zza hHeld.1 hHeld.2 ulr hb⟩ fun hHeld=> ?_
   clear hb
   clear hK Kc
   try simp only [Act.put,List.setIfInBounds_toArray,List.set_cons_zero,List.set_cons_succ]
   refine clS 3 ⟨some 13,.call ⟨.value (.func 42),#[.tmp 12],#[25]⟩,9,"declare.go:87",#[⟨2,.data⟩,⟨2,.chain⟩],none⟩ rfl (by kernel_rfl) (by kernel_rfl) fun Kc hK=> ?_
   go_simp
   refine (zqx N1.out HB0.out _ (HB.out.trans (hHeld.1.mono HB.out.size))).mono ?_
   rintro e w1 ⟨rfl,hb⟩
   refine hK.out _ _ ⟨hHeld.1.trans (hb.mono hHeld.1.size),zza hHeld.1 hHeld.2 ulr hb⟩ fun hHeld=> ?_
   clear hb
   clear hK Kc
   try simp only [Act.put,List.setIfInBounds_toArray,List.set_cons_zero,List.set_cons_succ]
   refine clS 6 ⟨some 16,.call ⟨.value (.func 29),#[.tmp 14,.tmp 15],#[25,3]⟩,25,"declare.go:87",#[⟨4,.data⟩,⟨5,.data⟩,⟨3,.chain⟩],none⟩ rfl (by kernel_rfl) (by kernel_rfl) fun Kc hK=> ?_
   go_simp
   refine (KP.out _ (HB.out.trans (hHeld.1.mono HB.out.size))).mono ?_
   rintro e w1 ⟨rfl,hb⟩
   refine hK.out _ _ ⟨hHeld.1.trans (hb.mono hHeld.1.size),zza hHeld.1 hHeld.2 ulr hb⟩ fun hHeld=> ?_
   clear hb
   clear hK Kc
   try simp only [Act.put,List.setIfInBounds_toArray,List.set_cons_zero,List.set_cons_succ]
   refine clS 7 ⟨some 17,.call ⟨.value (.func 42),#[.tmp 16],#[25]⟩,9,"declare.go:87",#[⟨6,.data⟩,⟨6,.chain⟩],none⟩ rfl (by kernel_rfl) (by kernel_rfl) fun Kc hK=> ?_
   go_simp
   refine (zqx NP.out HB0.out _ (HB.out.trans (hHeld.1.mono HB.out.size))).mono ?_
   rintro e w1 ⟨rfl,hb⟩
   refine hK.out _ _ ⟨hHeld.1.trans (hb.mono hHeld.1.size),zza hHeld.1 hHeld.2 ulr hb⟩ fun hHeld=> ?_
   clear hb
   clear hK Kc
   try simp only [Act.put,List.setIfInBounds_toArray,List.set_cons_zero,List.set_cons_succ]
   refine tkS 8 ⟨some 18,.binOp .eql 9 (.tmp 13) (.tmp 17) 9,4,"declare.go:87",#[⟨3,.data⟩,⟨7,.data⟩],none⟩ (v:= ?v1_8) hq hHeld rfl (by kernel_rfl) ?y1_8 ?_
   case y1_8=>(intro w h;try dsimp only at h);go_simp<;>with_reducible rfl
   try simp only [Act.put,List.setIfInBounds_toArray,List.set_cons_zero,List.set_cons_succ]
   refine wpAnyH_done (by kernel_rfl) ?_ _
   have hh:=hid (HB.out.trans (hHeld.1.mono HB.out.size))
   clear hHeld
   cases d with
   |true=>
    have hq:r=some k:=HK.out.symm.trans (zw6 hlt HD.out)
    subst hq
    go_wp2_with fail
    go_ret
    exact ⟨rfl,B0.out.trans (hh.out.mono B0.out.size)⟩
   |false=>
    have hq:=hid ((zve hlt HD.out).symm.trans HK.out)
    go_wp2_with fail
    go_roundw
    case rel=>exact ⟨k+1,by omega,by go_num,hq,hh.out⟩
    case measure=>simp [intOf];omega
  ·have hq:r=none:=HK.out.symm.trans (z2g (by omega))
   subst hq
   go_wp2_with fail
   go_ret
   exact ⟨rfl,B0.out.trans (HB.out.mono B0.out.size)⟩
def CRelN (wa:World) (ks:List Tree) (p:Nat) (c i:Value) (wr:World):Prop:=∃ k:Nat,k≤p∧i= .int .i64 k∧c= .int .i64 (cntN ks p k:Nat)∧Below wa.heap.size wa wr
theorem cahead_any (E:CE) (b:Nat) (t:Tree) (w:World) (N:Nd E b t) (hB:Below E.w0.heap.size E.w0 w) (p:Nat) (dp:Tree) (hp:t.kids[p]? =some dp):
 Calls Tryz.prog 150 #[.agg #[.pointer (some ⟨b,0,none⟩)],.int .i64 p] w fun e w'=>e= .returned (.int .i64 (cntN t.kids p p:Nat))∧Below w.heap.size w w':=by
 have B0:=hid (b1 w (.cells #[.pointer (some ⟨b,0,none⟩)] 25))
 have HB0:=hid (hB.trans ((b1 w (.cells #[.pointer (some ⟨b,0,none⟩)] 25)).mono hB.size))
 have U0:=hid (PtrAt.new w (some ⟨b,0,none⟩))
 have NN:=hid N
 have hp6:p<6000:=by obtain ⟨-,-,-,-,h,-⟩:=N.kid;have:=(List.getElem?_eq_some_iff.1 hp).1;omega
 have hpl:=(List.getElem?_eq_some_iff.1 hp).1
 obtain ⟨np,hnp,hkp⟩:=zx8 N HB0.out p dp hp
 have NP:=hid hnp
 have KP:=hid hkp
 have HNP:Hid (opAt t.kids p=dp.op):=opAt_at hp
 clear N hnp hkp hp
 go_enter Tryz.func150,Tryz.ntmps150
 go_wp2_with fail
 generalize w.alloc (.cells #[.pointer (some ⟨b,0,none⟩)] 25)=wa at*
 have u0:=U0.out.c0
 have ul:=U0.out.lt
 go_loopw [5,8] (fun c i wr=>CRelN wa t.kids p c i wr) (fun _ i _=>p - (intOf i).toNat)
 case atStart=>exact ⟨0,Nat.zero_le _,rfl,rfl,Below.refl _ _⟩
 case round=>
  obtain ⟨k,hk,rfl,rfl,hb0⟩:=hrel
  have HB:=hid hb0
  have hc6:=cntN_le t.kids p k
  by_cases hlt:k<p
  ·obtain ⟨u,hu⟩:∃ u,t.kids[k]? =some u:=⟨_,List.getElem?_eq_getElem (by omega)⟩
   obtain ⟨nb,hn,hkd⟩:=zx8 NN.out HB0.out k u hu
   have N1:=hid hn
   have KD:=hid hkd
   have HNK:Hid (opAt t.kids k=u.op):=opAt_at hu
   have ur:=zza (Below.refl _ _) u0 ul hb0
   have ulr:=Nat.lt_of_lt_of_le ul hb0.size
   obtain ⟨d,hd⟩:∃ d,((u.op:Int)==(dp.op:Int))=d:=⟨_,rfl⟩
   have HC:Hid (cntN t.kids p (k+1)=cntN t.kids p k+if d then 1 else 0):=by
    show _=_
    rw [←hd]
    conv=>lhs;unfold cntN
    rw [HNK.out,HNP.out]
    by_cases h:u.op=dp.op
    ·simp [h]
    ·have h':¬ (u.op:Int)=(dp.op:Int):=by omega
     simp [h,h']
   obtain ⟨C,hC⟩:∃ C,cntN t.kids p k=C:=⟨_,rfl⟩
   rw [hC] at HC hc6 ⊢
   clear hu hn hkd hb0 hC
   go_wp2_with fail
   refine rgS (fun w'=>Below wr.heap.size wr w'∧w'.cell? ⟨w.heap.size,0,none⟩=some (.pointer (some ⟨b,0,none⟩))) (by kernel_rfl) (⟨(Below.refl _ _).drew,ur⟩) (fun _ a d v _ h=>And.intro ((zql a d v).symm.trans (And.left h)) (And.right h)) fun hHeld hq=> ?_
   refine tkS 0 ⟨some 11,.load 25 (.tmp 2),25,"declare.go:98",#[],none⟩ (v:= ?v2_0) hq hHeld rfl (by kernel_rfl) ?y2_0 ?_
   case y2_0=>(intro w h;try dsimp only at h);go_simp<;>with_reducible rfl
   try simp only [Act.put,List.setIfInBounds_toArray,List.set_cons_zero,List.set_cons_succ]
   refine tkS 1 ⟨some 12,.move (.tmp 6),3,"declare.go:98",#[],none⟩ (v:= ?v2_1) hq hHeld rfl (by kernel_rfl) ?y2_1 ?_
   case y2_1=>(intro w h;try dsimp only at h);go_simp<;>with_reducible rfl
   try simp only [Act.put,List.setIfInBounds_toArray,List.set_cons_zero,List.set_cons_succ]
   refine tkS 4 ⟨some 15,.load 25 (.tmp 2),25,"declare.go:98",#[],none⟩ (v:= ?v2_4) hq hHeld rfl (by kernel_rfl) ?y2_4 ?_
   case y2_4=>(intro w h;try dsimp only at h);go_simp<;>with_reducible rfl
   try simp only [Act.put,List.setIfInBounds_toArray,List.set_cons_zero,List.set_cons_succ]
   refine tkS 5 ⟨some 16,.move (.tmp 1),3,"declare.go:98",#[],none⟩ (v:= ?v2_5) hq hHeld rfl (by kernel_rfl) ?y2_5 ?_
   case y2_5=>(intro w h;try dsimp only at h);go_simp<;>with_reducible rfl
   try simp only [Act.put,List.setIfInBounds_toArray,List.set_cons_zero,List.set_cons_succ]
   refine clS 2 ⟨some 13,.call ⟨.value (.func 29),#[.tmp 11,.tmp 12],#[25,3]⟩,25,"declare.go:98",#[⟨0,.data⟩,⟨1,.data⟩],none⟩ rfl (by kernel_rfl) (by kernel_rfl) fun Kc hK=> ?_
   go_simp
   refine (KD.out _ (HB.out.trans (hHeld.1.mono HB.out.size))).mono ?_
   rintro e w1 ⟨rfl,hb⟩
   refine hK.out _ _ ⟨hHeld.1.trans (hb.mono hHeld.1.size),zza hHeld.1 hHeld.2 ulr hb⟩ fun hHeld=> ?_
   clear hb
   clear hK Kc
   try simp only [Act.put,List.setIfInBounds_toArray,List.set_cons_zero,List.set_cons_succ]
   refine clS 3 ⟨some 14,.call ⟨.value (.func 10),#[.tmp 13],#[25]⟩,3,"declare.go:98",#[⟨2,.data⟩,⟨2,.chain⟩],none⟩ rfl (by kernel_rfl) (by kernel_rfl) fun Kc hK=> ?_
   go_simp
   refine (zqf N1.out HB0.out _ (HB.out.trans (hHeld.1.mono HB.out.size))).mono ?_
   rintro e w1 ⟨rfl,hb⟩
   refine hK.out _ _ ⟨hHeld.1.trans (hb.mono hHeld.1.size),zza hHeld.1 hHeld.2 ulr hb⟩ fun hHeld=> ?_
   clear hb
   clear hK Kc
   try simp only [Act.put,List.setIfInBounds_toArray,List.set_cons_zero,List.set_cons_succ]
   refine clS 6 ⟨some 17,.call ⟨.value (.func 29),#[.tmp 15,.tmp 16],#[25,3]⟩,25,"declare.go:98",#[⟨4,.data⟩,⟨5,.data⟩,⟨3,.chain⟩],none⟩ rfl (by kernel_rfl) (by kernel_rfl) fun Kc hK=> ?_
   go_simp
   refine (KP.out _ (HB.out.trans (hHeld.1.mono HB.out.size))).mono ?_
   rintro e w1 ⟨rfl,hb⟩
   refine hK.out _ _ ⟨hHeld.1.trans (hb.mono hHeld.1.size),zza hHeld.1 hHeld.2 ulr hb⟩ fun hHeld=> ?_
   clear hb
   clear hK Kc
   try simp only [Act.put,List.setIfInBounds_toArray,List.set_cons_zero,List.set_cons_succ]
   refine clS 7 ⟨some 18,.call ⟨.value (.func 10),#[.tmp 17],#[25]⟩,3,"declare.go:98",#[⟨6,.data⟩,⟨6,.chain⟩],none⟩ rfl (by kernel_rfl) (by kernel_rfl) fun Kc hK=> ?_
   go_simp
   refine (zqf NP.out HB0.out _ (HB.out.trans (hHeld.1.mono HB.out.size))).mono ?_
   rintro e w1 ⟨rfl,hb⟩
   refine hK.out _ _ ⟨hHeld.1.trans (hb.mono hHeld.1.size),zza hHeld.1 hHeld.2 ulr hb⟩ fun hHeld=> ?_
   clear hb
   clear hK Kc
   try simp only [Act.put,List.setIfInBounds_toArray,List.set_cons_zero,List.set_cons_succ]
   refine tkS 8 ⟨some 19,.binOp .eql 3 (.tmp 14) (.tmp 18) 3,4,"declare.go:98",#[⟨3,.data⟩,⟨7,.data⟩],none⟩ (v:= ?v2_8) hq hHeld rfl (by kernel_rfl) ?y2_8 ?_
   case y2_8=>(intro w h;try dsimp only at h);go_simp<;>with_reducible rfl
   try simp only [Act.put,List.setIfInBounds_toArray,List.set_cons_zero,List.set_cons_succ]
   refine wpAnyH_done (by kernel_rfl) ?_ _
   have hh:=hid (HB.out.trans (hHeld.1.mono HB.out.size))
   clear hHeld
   cases d with
   |true=>
    go_wp2_with fail
    go_roundw
    case rel=>exact ⟨k+1,by omega,by go_num,by rw [HC.out];go_num,hh.out⟩
    case measure=>simp [intOf];omega
   |false=>
    go_wp2_with fail
    go_roundw
    case rel=>exact ⟨k+1,by omega,by go_num,by rw [HC.out];rfl,hh.out⟩
    case measure=>simp [intOf];omega
  ·obtain rfl:k=p:=by omega
   go_wp2_with fail
   go_ret
   exact ⟨rfl,B0.out.trans (HB.out.mono B0.out.size)⟩
theorem cmostOf_any (op:Nat) (w:World):Calls Tryz.prog 151 #[.int .i64 op] w fun e w'=>e= .returned (.int .i64 (mostD op:Nat))∧w=w':=by
 by_cases h2:op=2
 ·subst h2
  go_enter Tryz.func151,Tryz.ntmps151
  go_wp2_with fail
  go_ret
  exact ⟨rfl,rfl⟩
 ·by_cases h3:op=3
  ·subst h3
   go_enter Tryz.func151,Tryz.ntmps151
   go_wp2_with fail
   go_ret
   exact ⟨rfl,rfl⟩
  ·rw [show mostD op=24 by unfold mostD;rw [if_neg h2,if_neg h3]]
   have f2:((op:Int)==2)=false:=by rw [beq_eq_false_iff_ne];omega
   have f3:((op:Int)==3)=false:=by rw [beq_eq_false_iff_ne];omega
   go_enter Tryz.func151,Tryz.ntmps151
   go_wp2_with fail
   go_ret
   exact ⟨rfl,rfl⟩
theorem cmostParts_any (op:Nat) (w:World):Calls Tryz.prog 153 #[.int .i64 op] w fun e w'=>e= .returned (.int .i64 (mostPt op:Nat))∧w=w':=by
 by_cases h2:op=2
 ·subst h2
  go_enter Tryz.func153,Tryz.ntmps153
  go_wp2_with fail
  go_ret
  exact ⟨rfl,rfl⟩
 ·rw [show mostPt op=6 by unfold mostPt;rw [if_neg h2]]
  have f2:((op:Int)==2)=false:=by rw [beq_eq_false_iff_ne];omega
  go_enter Tryz.func153,Tryz.ntmps153
  go_wp2_with fail
  go_ret
  exact ⟨rfl,rfl⟩
theorem cnames_any (E:CE) (b:Nat) (t:Tree) (w:World) (N:Nd E b t) (hB:Below E.w0.heap.size E.w0 w):
 Calls Tryz.prog 108 #[.agg #[.pointer (some ⟨b,0,none⟩)]] w (UQ E w (firC t.kids (zwc t.kids) t.kids.length)):=by
 have B0:=hid (b1 w (.cells #[.pointer (some ⟨b,0,none⟩)] 25))
 have HB0:=hid (hB.trans ((b1 w (.cells #[.pointer (some ⟨b,0,none⟩)] 25)).mono hB.size))
 have U0:=hid (PtrAt.new w (some ⟨b,0,none⟩))
 have NN:=hid N
 obtain ⟨m,hm⟩:∃ m,t.kids.length=m:=⟨_,rfl⟩
 have HM:=hid hm
 have hm6:m≤6000:=by obtain ⟨-,-,-,-,h,-⟩:=N.kid;omega
 obtain ⟨r,hr⟩:∃ r,fir (zwc t.kids) m 0=r:=⟨_,rfl⟩
 have HR:=hid hr
 rw [firC_eq,hm,hr]
 clear N hm hr
 go_enter Tryz.func108,Tryz.ntmps108
 go_wp2_with fail
 generalize w.alloc (.cells #[.pointer (some ⟨b,0,none⟩)] 25)=wa at*
 have u0:=U0.out.c0
 have ul:=U0.out.lt
 refine (zk4 NN.out HB0.out _ (Below.refl _ _)).mono ?_
 rintro e w1 ⟨rfl,hb⟩
 have HB1:=hid hb
 rw [HM.out]
 clear hb
 go_wp2_with fail
 go_loopw [6] (fun i wr=>NRel wa (zwc t.kids) m r i wr) (fun i _=>m - (intOf i).toNat)
 case atStart=>exact ⟨0,Nat.zero_le _,rfl,HR,HB1.out⟩
 case round=>
  obtain ⟨k,hk,rfl,HK,hb0⟩:=hrel
  have HB:=hid hb0
  by_cases hlt:k<m
  ·obtain ⟨u,hu⟩:∃ u,t.kids[k]? =some u:=⟨_,List.getElem?_eq_getElem (by have:=HM.out;omega)⟩
   obtain ⟨nb,hn,hkd⟩:=zx8 NN.out HB0.out k u hu
   have HU:=hid hu
   have N1:=hid hn
   have KD:=hid hkd
   have ur:=zza (Below.refl _ _) u0 ul hb0
   have HGP:Hid (t.kids.getD k Tree.zero=u):=by show _=_;rw [List.getD_eq_getElem?_getD,hu];rfl
   have HOK:Hid (opAt t.kids k=u.op):=opAt_at hu
   clear hu hn hkd hb0
   go_wp2_with fail
   refine (KD.out _ HB.out).mono ?_
   rintro e w2 ⟨rfl,hb⟩
   have H2:=hid (HB.out.trans (hb.mono HB.out.size))
   have KC:=hid (PtrAt.new w2 (some ⟨nb,0,none⟩))
   have H4:=hid (H2.out.trans ((b1 w2 (.cells #[.pointer (some ⟨nb,0,none⟩)] 25)).mono H2.out.size))
   clear hb KD ur
   have k0:=KC.out.c0
   have kl:=KC.out.lt
   go_wp2_with fail
   generalize w2.alloc (.cells #[.pointer (some ⟨nb,0,none⟩)] 25)=w4 at*
   have u4:=zza (Below.refl _ _) u0 ul H4.out
   have ul4:=Nat.lt_of_lt_of_le ul H4.out.size
   obtain ⟨d,hd⟩:∃ d,newB t.kids k=d:=⟨_,rfl⟩
   have HD:=hid hd
   obtain ⟨cn,hcn⟩:∃ d,cntN t.kids k k=d:=⟨_,rfl⟩
   obtain ⟨mo,hmo⟩:∃ d,mostD u.op=d:=⟨_,rfl⟩
   obtain ⟨d2,hd2⟩:∃ d,decide (cn<mo)=d:=⟨_,rfl⟩
   have HCN:=hid hcn
   have HMO:=hid hmo
   have HE:Hid (zwc t.kids k=if d then (if d2 then 0 else 4) else 6):=by
    show _=_
    unfold zwc
    rw [hd,hcn,HOK.out,hmo,←hd2]
    by_cases h:cn<mo
    ·simp [h]
    ·simp [h]
   have HF6:Hid (firR t.kids (k,6)= .bad u.pos 6):=by show CR.bad (t.kids.getD k Tree.zero).pos 6=_;rw [HGP.out]
   have HF4:Hid (firR t.kids (k,4)= .bad u.pos 4):=by show CR.bad (t.kids.getD k Tree.zero).pos 4=_;rw [HGP.out]
   have BA:Hid (∀ w',Below w4.heap.size w4 w'→Below w.heap.size w w'):=fun w' h=>B0.out.trans ((H4.out.trans (h.mono H4.out.size)).mono B0.out.size)
   have BEW:=hid (HB0.out.trans (H4.out.mono HB0.out.size))
   clear hd hcn hmo
   refine rgS (fun w'=>Below w4.heap.size w4 w'∧w'.cell? ⟨w2.heap.size,0,none⟩=some (.pointer (some ⟨nb,0,none⟩))∧w'.cell? ⟨w.heap.size,0,none⟩=some (.pointer (some ⟨b,0,none⟩))) (by kernel_rfl) (⟨(Below.refl _ _).drew,k0,u4⟩) (fun _ a d v _ h=>And.intro ((zql a d v).symm.trans (And.left h)) (And.right h)) fun hHeld hq=> ?_
   refine tkS 0 ⟨some 12,.load 25 (.tmp 3),25,"declare.go:79",#[],none⟩ (v:= ?v3_0) hq hHeld rfl (by kernel_rfl) ?y3_0 ?_
   case y3_0=>(intro w h;try dsimp only at h);go_simp<;>with_reducible rfl
   try simp only [Act.put,List.setIfInBounds_toArray,List.set_cons_zero,List.set_cons_succ]
   refine tkS 1 ⟨some 13,.load 25 (.tmp 1),25,"declare.go:79",#[],none⟩ (v:= ?v3_1) hq hHeld rfl (by kernel_rfl) ?y3_1 ?_
   case y3_1=>(intro w h;try dsimp only at h);go_simp<;>with_reducible rfl
   try simp only [Act.put,List.setIfInBounds_toArray,List.set_cons_zero,List.set_cons_succ]
   refine tkS 2 ⟨some 14,.move (.tmp 2),3,"declare.go:79",#[],none⟩ (v:= ?v3_2) hq hHeld rfl (by kernel_rfl) ?y3_2 ?_
   case y3_2=>(intro w h;try dsimp only at h);go_simp<;>with_reducible rfl
   try simp only [Act.put,List.setIfInBounds_toArray,List.set_cons_zero,List.set_cons_succ]
   refine clS 3 ⟨some 15,.call ⟨.value (.func 149),#[.tmp 13,.tmp 14],#[25,3]⟩,4,"declare.go:79",#[⟨1,.data⟩,⟨2,.data⟩],none⟩ rfl (by kernel_rfl) (by kernel_rfl) fun Kc hK=> ?_
   go_simp
   refine (cnew_any E b t _ NN.out (BEW.out.trans (hHeld.1.mono BEW.out.size)) k u HU.out).mono ?_
   rintro e w1 ⟨rfl,hb⟩
   rw [HD.out]
   refine hK.out _ _ ⟨hHeld.1.trans (hb.mono hHeld.1.size),zza hHeld.1 hHeld.2.1 kl hb,zza hHeld.1 hHeld.2.2 ul4 hb⟩ fun hHeld=> ?_
   clear hb
   clear hK Kc
   try simp only [Act.put,List.setIfInBounds_toArray,List.set_cons_zero,List.set_cons_succ]
   refine clS 4 ⟨some 16,.call ⟨.value (.func 148),#[.tmp 12,.tmp 15,.const (.int .i64 6)],#[25,4,26]⟩,0,"declare.go:79",#[⟨0,.data⟩,⟨3,.data⟩,⟨3,.chain⟩],none⟩ rfl (by kernel_rfl) (by kernel_rfl) fun Kc hK=> ?_
   go_simp
   refine (zz2 N1.out BEW.out d 6 _ hHeld.1).mono ?_
   rintro e w1 ⟨hb,he⟩
   cases d with
   |false=>obtain rfl:=he;exact ⟨rfl,uq_bad (BA.out _ (hHeld.1.trans (hb.mono hHeld.1.size))) (er:=6) (by rw [←HK.out,zwe hlt (by rw [HE.out];exact (by decide:(6:Nat)≠0)),HE.out];exact HF6.out) rfl⟩
   |true=>
   obtain rfl:=he
   refine hK.out _ _ ⟨hHeld.1.trans (hb.mono hHeld.1.size),zza hHeld.1 hHeld.2.1 kl hb,zza hHeld.1 hHeld.2.2 ul4 hb⟩ fun hHeld=> ?_
   clear hb
   clear hK Kc
   try simp only [Act.put,List.setIfInBounds_toArray,List.set_cons_zero,List.set_cons_succ]
   refine wpAnyH_done (by kernel_rfl) ?_ _
   go_wp2_with fail
   have k0:=hHeld.2.1
   have u4:=hHeld.2.2
   refine rgS (fun w'=>Below w4.heap.size w4 w'∧w'.cell? ⟨w2.heap.size,0,none⟩=some (.pointer (some ⟨nb,0,none⟩))∧w'.cell? ⟨w.heap.size,0,none⟩=some (.pointer (some ⟨b,0,none⟩))) (by kernel_rfl) (⟨hHeld.1.drew,k0,u4⟩) (fun _ a d v _ h=>And.intro ((zql a d v).symm.trans (And.left h)) (And.right h)) fun hHeld hq=> ?_
   refine tkS 0 ⟨some 17,.load 25 (.tmp 3),25,"declare.go:80",#[],none⟩ (v:= ?v4_0) hq hHeld rfl (by kernel_rfl) ?y4_0 ?_
   case y4_0=>(intro w h;try dsimp only at h);go_simp<;>with_reducible rfl
   try simp only [Act.put,List.setIfInBounds_toArray,List.set_cons_zero,List.set_cons_succ]
   refine tkS 1 ⟨some 18,.load 25 (.tmp 1),25,"declare.go:80",#[],none⟩ (v:= ?v4_1) hq hHeld rfl (by kernel_rfl) ?y4_1 ?_
   case y4_1=>(intro w h;try dsimp only at h);go_simp<;>with_reducible rfl
   try simp only [Act.put,List.setIfInBounds_toArray,List.set_cons_zero,List.set_cons_succ]
   refine tkS 2 ⟨some 19,.move (.tmp 2),3,"declare.go:80",#[],none⟩ (v:= ?v4_2) hq hHeld rfl (by kernel_rfl) ?y4_2 ?_
   case y4_2=>(intro w h;try dsimp only at h);go_simp<;>with_reducible rfl
   try simp only [Act.put,List.setIfInBounds_toArray,List.set_cons_zero,List.set_cons_succ]
   refine tkS 4 ⟨some 21,.load 25 (.tmp 3),25,"declare.go:80",#[],none⟩ (v:= ?v4_4) hq hHeld rfl (by kernel_rfl) ?y4_4 ?_
   case y4_4=>(intro w h;try dsimp only at h);go_simp<;>with_reducible rfl
   try simp only [Act.put,List.setIfInBounds_toArray,List.set_cons_zero,List.set_cons_succ]
   refine clS 3 ⟨some 20,.call ⟨.value (.func 150),#[.tmp 18,.tmp 19],#[25,3]⟩,3,"declare.go:80",#[⟨1,.data⟩,⟨2,.data⟩],none⟩ rfl (by kernel_rfl) (by kernel_rfl) fun Kc hK=> ?_
   go_simp
   refine (cahead_any E b t _ NN.out (BEW.out.trans (hHeld.1.mono BEW.out.size)) k u HU.out).mono ?_
   rintro e w1 ⟨rfl,hb⟩
   rw [HCN.out]
   refine hK.out _ _ ⟨hHeld.1.trans (hb.mono hHeld.1.size),zza hHeld.1 hHeld.2.1 kl hb,zza hHeld.1 hHeld.2.2 ul4 hb⟩ fun hHeld=> ?_
   clear hb
   clear hK Kc
   try simp only [Act.put,List.setIfInBounds_toArray,List.set_cons_zero,List.set_cons_succ]
   refine clS 5 ⟨some 22,.call ⟨.value (.func 10),#[.tmp 21],#[25]⟩,3,"declare.go:80",#[⟨4,.data⟩,⟨3,.chain⟩],none⟩ rfl (by kernel_rfl) (by kernel_rfl) fun Kc hK=> ?_
   go_simp
   refine (zqf N1.out BEW.out _ hHeld.1).mono ?_
   rintro e w1 ⟨rfl,hb⟩
   refine hK.out _ _ ⟨hHeld.1.trans (hb.mono hHeld.1.size),zza hHeld.1 hHeld.2.1 kl hb,zza hHeld.1 hHeld.2.2 ul4 hb⟩ fun hHeld=> ?_
   clear hb
   clear hK Kc
   try simp only [Act.put,List.setIfInBounds_toArray,List.set_cons_zero,List.set_cons_succ]
   refine clS 6 ⟨some 23,.call ⟨.value (.func 151),#[.tmp 22],#[3]⟩,3,"declare.go:80",#[⟨5,.data⟩,⟨5,.chain⟩],none⟩ rfl (by kernel_rfl) (by kernel_rfl) fun Kc hK=> ?_
   go_simp
   refine (sameB (cmostOf_any u.op _)).mono ?_
   rintro e w1 ⟨rfl,hb⟩
   rw [HMO.out]
   refine hK.out _ _ ⟨hHeld.1.trans (hb.mono hHeld.1.size),zza hHeld.1 hHeld.2.1 kl hb,zza hHeld.1 hHeld.2.2 ul4 hb⟩ fun hHeld=> ?_
   clear hb
   clear hK Kc
   try simp only [Act.put,List.setIfInBounds_toArray,List.set_cons_zero,List.set_cons_succ]
   refine tkS 7 ⟨some 24,.binOp .lss 3 (.tmp 20) (.tmp 23) 3,4,"declare.go:80",#[⟨3,.data⟩,⟨6,.data⟩],none⟩ (v:= ?v4_7) hq hHeld rfl (by kernel_rfl) ?y4_7 ?_
   case y4_7=>(intro w h;try dsimp only at h);go_simp<;>with_reducible rfl
   try simp only [Act.put,List.setIfInBounds_toArray,List.set_cons_zero,List.set_cons_succ]
   refine clS 8 ⟨some 25,.call ⟨.value (.func 148),#[.tmp 17,.tmp 24,.const (.int .i64 4)],#[25,4,26]⟩,0,"declare.go:80",#[⟨0,.data⟩,⟨7,.data⟩,⟨6,.chain⟩],none⟩ rfl (by kernel_rfl) (by kernel_rfl) fun Kc hK=> ?_
   go_simp
   refine (zz2 N1.out BEW.out d2 4 _ hHeld.1).mono ?_
   rintro e w1 ⟨hb,he⟩
   cases d2 with
   |false=>obtain rfl:=he;exact ⟨rfl,uq_bad (BA.out _ (hHeld.1.trans (hb.mono hHeld.1.size))) (er:=4) (by rw [←HK.out,zwe hlt (by rw [HE.out];exact (by decide:(4:Nat)≠0)),HE.out];exact HF4.out) rfl⟩
   |true=>
   obtain rfl:=he
   refine hK.out _ _ ⟨hHeld.1.trans (hb.mono hHeld.1.size),zza hHeld.1 hHeld.2.1 kl hb,zza hHeld.1 hHeld.2.2 ul4 hb⟩ fun hHeld=> ?_
   clear hb
   clear hK Kc
   try simp only [Act.put,List.setIfInBounds_toArray,List.set_cons_zero,List.set_cons_succ]
   refine wpAnyH_done (by kernel_rfl) ?_ _
   have hh:=hid (H4.out.trans (hHeld.1.mono H4.out.size))
   clear hHeld
   have hq:=hid ((zvf hlt (by rw [HE.out];rfl)).symm.trans HK.out)
   go_wp2_with fail
   go_roundw
   case rel=>exact ⟨k+1,by omega,by go_num,hq,hh.out⟩
   case measure=>simp [intOf];omega
  ·have hq:r=(0,0):=HK.out.symm.trans (zwf (by omega))
   subst hq
   go_wp2_with fail
   refine bodyPost_end (v:= .tuple #[]) (by simp [results,Tryz.results108,go_sem]) rfl ?_
   exact ⟨B0.out.trans (HB.out.mono B0.out.size),rfl⟩
theorem tp_at {ks:List Tree} {k:Nat} {u:Tree} (h:ks[k]? =some u):ks.getD k Tree.zero=u:=by rw [List.getD_eq_getElem?_getD,h];rfl
theorem ctypes_any (E:CE) (b:Nat) (t:Tree) (w:World) (N:Nd E b t) (hB:Below E.w0.heap.size E.w0 w) (ss:List Str) (A:Option Addr) (c:Nat) (hS:SR w A ss) (hsl:ss.length≤100000) (hk:t.op=4→1≤t.kids.length):
 Calls Tryz.prog 109 #[.slice A ss.length c,.agg #[.pointer (some ⟨b,0,none⟩)]] w (UQ E w (zqp ss t)):=by
 have B0:=hid (b1 w (.cells #[.pointer (some ⟨b,0,none⟩)] 25))
 have HB0:=hid (hB.trans ((b1 w (.cells #[.pointer (some ⟨b,0,none⟩)] 25)).mono hB.size))
 have U0:=hid (PtrAt.new w (some ⟨b,0,none⟩))
 have NN:=hid N
 have HKK:=hid hk
 have HSR:=hid (hS.below (b1 w (.cells #[.pointer (some ⟨b,0,none⟩)] 25)) (Nat.le_refl _))
 have hm6:t.kids.length≤6000:=by obtain ⟨-,-,-,-,h,-⟩:=N.kid;omega
 clear N hk hS
 by_cases ho:t.op=3
 ·obtain ⟨d,hd⟩:∃ d,isT ss (tp t)=d:=⟨_,rfl⟩
  have HD:=hid hd
  rw [show zqp ss t=nd t.pos d 5 (.ok ()) by unfold zqp;rw [if_pos ho,hd]]
  clear hd
  go_enter Tryz.func109,Tryz.ntmps109
  go_wp2_with fail
  generalize w.alloc (.cells #[.pointer (some ⟨b,0,none⟩)] 25)=wa at*
  have u0:=U0.out.c0
  have ul:=U0.out.lt
  refine (zqf NN.out HB0.out _ (Below.refl _ _)).mono ?_
  rintro e w1 ⟨rfl,hb⟩
  have u0:=zza (Below.refl _ _) u0 ul hb
  have hh:=hid hb
  rw [ho]
  clear hb
  go_wp2_with fail
  refine rgS (fun w'=>Below wa.heap.size wa w'∧w'.cell? ⟨w.heap.size,0,none⟩=some (.pointer (some ⟨b,0,none⟩))) (by kernel_rfl) (⟨hh.out.drew,u0⟩) (fun _ a d v _ h=>And.intro ((zql a d v).symm.trans (And.left h)) (And.right h)) fun hHeld hq=> ?_
  refine tkS 0 ⟨some 9,.load 25 (.tmp 3),25,"declare.go:119",#[],none⟩ (v:= ?v1_0) hq hHeld rfl (by kernel_rfl) ?y1_0 ?_
  case y1_0=>(intro w h;try dsimp only at h);go_simp<;>with_reducible rfl
  try simp only [Act.put,List.setIfInBounds_toArray,List.set_cons_zero,List.set_cons_succ]
  refine tkS 1 ⟨some 10,.move (.tmp 0),40,"declare.go:119",#[],none⟩ (v:= ?v1_1) hq hHeld rfl (by kernel_rfl) ?y1_1 ?_
  case y1_1=>(intro w h;try dsimp only at h);go_simp<;>with_reducible rfl
  try simp only [Act.put,List.setIfInBounds_toArray,List.set_cons_zero,List.set_cons_succ]
  refine tkS 2 ⟨some 11,.load 25 (.tmp 3),25,"declare.go:119",#[],none⟩ (v:= ?v1_2) hq hHeld rfl (by kernel_rfl) ?y1_2 ?_
  case y1_2=>(intro w h;try dsimp only at h);go_simp<;>with_reducible rfl
  try simp only [Act.put,List.setIfInBounds_toArray,List.set_cons_zero,List.set_cons_succ]
  refine clS 3 ⟨some 12,.call ⟨.value (.func 43),#[.tmp 11],#[25]⟩,9,"declare.go:119",#[⟨2,.data⟩],none⟩ rfl (by kernel_rfl) (by kernel_rfl) fun Kc hK=> ?_
  go_simp
  refine (z02 NN.out HB0.out _ hHeld.1).mono ?_
  rintro e w1 ⟨rfl,hb⟩
  refine hK.out _ _ ⟨hHeld.1.trans (hb.mono hHeld.1.size),zza hHeld.1 hHeld.2 ul hb⟩ fun hHeld=> ?_
  clear hb
  clear hK Kc
  try simp only [Act.put,List.setIfInBounds_toArray,List.set_cons_zero,List.set_cons_succ]
  refine clS 4 ⟨some 13,.call ⟨.value (.func 118),#[.tmp 10,.tmp 12],#[40,9]⟩,4,"declare.go:119",#[⟨1,.data⟩,⟨3,.data⟩,⟨3,.chain⟩],none⟩ rfl (by kernel_rfl) (by kernel_rfl) fun Kc hK=> ?_
  go_simp
  refine (is_any A c ss.length ss (tp t) d _ (hid (HSR.out.below hHeld.1 (Nat.le_refl _))) (hid rfl) (by omega) HD).mono ?_
  rintro e w1 ⟨rfl,hb⟩
  refine hK.out _ _ ⟨hHeld.1.trans (hb.mono hHeld.1.size),zza hHeld.1 hHeld.2 ul hb⟩ fun hHeld=> ?_
  clear hb
  clear hK Kc
  try simp only [Act.put,List.setIfInBounds_toArray,List.set_cons_zero,List.set_cons_succ]
  refine clS 5 ⟨some 14,.call ⟨.value (.func 148),#[.tmp 9,.tmp 13,.const (.int .i64 5)],#[25,4,26]⟩,0,"declare.go:119",#[⟨0,.data⟩,⟨4,.data⟩,⟨4,.chain⟩],none⟩ rfl (by kernel_rfl) (by kernel_rfl) fun Kc hK=> ?_
  go_simp
  refine (zz2 NN.out HB0.out d 5 _ hHeld.1).mono ?_
  rintro e w1 ⟨hb,he⟩
  cases d with
  |false=>obtain rfl:=he;exact ⟨rfl,uq_bad (onB B0.out hHeld.1 hb) (er:=5) rfl rfl⟩
  |true=>
  obtain rfl:=he
  refine hK.out _ _ ⟨hHeld.1.trans (hb.mono hHeld.1.size),zza hHeld.1 hHeld.2 ul hb⟩ fun hHeld=> ?_
  clear hb
  clear hK Kc
  try simp only [Act.put,List.setIfInBounds_toArray,List.set_cons_zero,List.set_cons_succ]
  refine wpAnyH_done (by kernel_rfl) ?_ _
  go_wp2_with fail
  refine bodyPost_ret (v:= .tuple #[]) (by simp [results,Tryz.results109,go_sem]) rfl ?_
  exact ⟨B0.out.trans (hHeld.1.mono B0.out.size),rfl⟩
 ·obtain ⟨m,hm⟩:∃ m,cntP t=m:=⟨_,rfl⟩
  have HM:=hid hm
  have hcl:=cntP_le t
  obtain ⟨r,hr⟩:∃ r,fir (z2y ss t) m 0=r:=⟨_,rfl⟩
  have HR:=hid hr
  obtain ⟨e1,he1⟩:∃ d,(tp t).toList.isEmpty=d:=⟨_,rfl⟩
  have HE1:Hid (eqB (tp t) zkx=e1):=eqB_nil he1
  obtain ⟨e2,he2⟩:∃ d,isT ss (tp t)=d:=⟨_,rfl⟩
  have HE2:=hid he2
  have HTC:Hid (zqp ss t=(firR t.kids r).bind fun _=>nd t.pos (e1||e2) 5 (.ok ())):=by show _=_;unfold zqp;rw [if_neg ho,firC_eq,hm,hr,HE1.out,he2]
  have f3:((t.op:Int)==3)=false:=by rw [beq_eq_false_iff_ne];omega
  rw [hm] at hcl
  clear hr he2 hm ho
  go_enter Tryz.func109,Tryz.ntmps109
  go_wp2_with fail
  generalize w.alloc (.cells #[.pointer (some ⟨b,0,none⟩)] 25)=wa at*
  have u0:=U0.out.c0
  have ul:=U0.out.lt
  refine (zqf NN.out HB0.out _ (Below.refl _ _)).mono ?_
  rintro e w1 ⟨rfl,hb⟩
  have u1:=zza (Below.refl _ _) u0 ul hb
  have hh:=hid hb
  clear hb
  go_wp2_with fail
  refine (ccount_any E b t w1 NN.out (HB0.out.trans (hh.out.mono HB0.out.size)) HKK.out).mono ?_
  rintro e wc ⟨rfl,hb⟩
  have H0:=hid (hh.out.trans (hb.mono hh.out.size))
  rw [HM.out]
  clear hb u1
  go_wp2_with fail
  go_loopw [17] (fun i wr=>NRel wa (z2y ss t) m r i wr) (fun i _=>m - (intOf i).toNat)
  case atStart=>exact ⟨0,Nat.zero_le _,rfl,HR,H0.out⟩
  case round=>
   obtain ⟨k,hk,rfl,HK,hb0⟩:=hrel
   have HB:=hid hb0
   by_cases hlt:k<m
   ·obtain ⟨u,hu⟩:∃ u,t.kids[k]? =some u:=⟨_,List.getElem?_eq_getElem (by omega)⟩
    obtain ⟨nb,hn,hkd⟩:=zx8 NN.out HB0.out k u hu
    have HU:=hid hu
    have N1:=hid hn
    have KD:=hid hkd
    have ur:=zza (Below.refl _ _) u0 ul hb0
    have HGP:=hid (tp_at hu)
    clear hu hn hkd hb0
    go_wp2_with fail
    refine (KD.out _ HB.out).mono ?_
    rintro e w2 ⟨rfl,hb⟩
    have H2:=hid (HB.out.trans (hb.mono HB.out.size))
    have KC:=hid (PtrAt.new w2 (some ⟨nb,0,none⟩))
    have H4:=hid (H2.out.trans ((b1 w2 (.cells #[.pointer (some ⟨nb,0,none⟩)] 25)).mono H2.out.size))
    clear hb KD ur
    have k0:=KC.out.c0
    have kl:=KC.out.lt
    go_wp2_with fail
    generalize w2.alloc (.cells #[.pointer (some ⟨nb,0,none⟩)] 25)=w4 at*
    have u4:=zza (Below.refl _ _) u0 ul H4.out
    have ul4:=Nat.lt_of_lt_of_le ul H4.out.size
    obtain ⟨d,hd⟩:∃ d,newB t.kids k=d:=⟨_,rfl⟩
    have HD:=hid hd
    obtain ⟨mo,hmo⟩:∃ d,mostPt t.op=d:=⟨_,rfl⟩
    obtain ⟨d2,hd2⟩:∃ d,decide (k<mo)=d:=⟨_,rfl⟩
    have HMO:=hid hmo
    obtain ⟨d3,hd3⟩:∃ d,isT ss (tp u)=d:=⟨_,rfl⟩
    have HD3:=hid hd3
    have HE:Hid (z2y ss t k=if d2 then (if d then (if d3 then 0 else 5) else 6) else 4):=by
     show _=_
     unfold z2y
     rw [hd,hmo,HGP.out,hd3,←hd2]
     by_cases h:k<mo
     ·simp [h]
     ·simp [h]
    have HF4:Hid ((firR t.kids (k,4)).bind (fun _=>nd t.pos (e1||e2) 5 (.ok ()))= .bad u.pos 4):=by show CR.bad (t.kids.getD k Tree.zero).pos 4=_;rw [HGP.out]
    have HF6:Hid ((firR t.kids (k,6)).bind (fun _=>nd t.pos (e1||e2) 5 (.ok ()))= .bad u.pos 6):=by show CR.bad (t.kids.getD k Tree.zero).pos 6=_;rw [HGP.out]
    have HF5:Hid ((firR t.kids (k,5)).bind (fun _=>nd t.pos (e1||e2) 5 (.ok ()))= .bad u.pos 5):=by show CR.bad (t.kids.getD k Tree.zero).pos 5=_;rw [HGP.out]
    have BA:Hid (∀ w',Below w4.heap.size w4 w'→Below w.heap.size w w'):=fun w' h=>B0.out.trans ((H4.out.trans (h.mono H4.out.size)).mono B0.out.size)
    have BEW:=hid (HB0.out.trans (H4.out.mono HB0.out.size))
    have HSR4:=hid (HSR.out.below H4.out (Nat.le_refl _))
    clear hd hmo hd3
    refine rgS (fun w'=>Below w4.heap.size w4 w'∧w'.cell? ⟨w2.heap.size,0,none⟩=some (.pointer (some ⟨nb,0,none⟩))∧w'.cell? ⟨w.heap.size,0,none⟩=some (.pointer (some ⟨b,0,none⟩))) (by kernel_rfl) (⟨(Below.refl _ _).drew,k0,u4⟩) (fun _ a d v _ h=>And.intro ((zql a d v).symm.trans (And.left h)) (And.right h)) fun hHeld hq=> ?_
    refine tkS 0 ⟨some 23,.load 25 (.tmp 5),25,"declare.go:124",#[],none⟩ (v:= ?v2_0) hq hHeld rfl (by kernel_rfl) ?y2_0 ?_
    case y2_0=>(intro w h;try dsimp only at h);go_simp<;>with_reducible rfl
    try simp only [Act.put,List.setIfInBounds_toArray,List.set_cons_zero,List.set_cons_succ]
    refine tkS 1 ⟨some 24,.move (.tmp 4),3,"declare.go:124",#[],none⟩ (v:= ?v2_1) hq hHeld rfl (by kernel_rfl) ?y2_1 ?_
    case y2_1=>(intro w h;try dsimp only at h);go_simp<;>with_reducible rfl
    try simp only [Act.put,List.setIfInBounds_toArray,List.set_cons_zero,List.set_cons_succ]
    refine tkS 2 ⟨some 25,.load 25 (.tmp 3),25,"declare.go:124",#[],none⟩ (v:= ?v2_2) hq hHeld rfl (by kernel_rfl) ?y2_2 ?_
    case y2_2=>(intro w h;try dsimp only at h);go_simp<;>with_reducible rfl
    try simp only [Act.put,List.setIfInBounds_toArray,List.set_cons_zero,List.set_cons_succ]
    refine clS 3 ⟨some 26,.call ⟨.value (.func 10),#[.tmp 25],#[25]⟩,3,"declare.go:124",#[⟨2,.data⟩],none⟩ rfl (by kernel_rfl) (by kernel_rfl) fun Kc hK=> ?_
    go_simp
    refine (zqf NN.out BEW.out _ hHeld.1).mono ?_
    rintro e w1 ⟨rfl,hb⟩
    refine hK.out _ _ ⟨hHeld.1.trans (hb.mono hHeld.1.size),zza hHeld.1 hHeld.2.1 kl hb,zza hHeld.1 hHeld.2.2 ul4 hb⟩ fun hHeld=> ?_
    clear hb
    clear hK Kc
    try simp only [Act.put,List.setIfInBounds_toArray,List.set_cons_zero,List.set_cons_succ]
    refine clS 4 ⟨some 27,.call ⟨.value (.func 153),#[.tmp 26],#[3]⟩,3,"declare.go:124",#[⟨3,.data⟩,⟨3,.chain⟩],none⟩ rfl (by kernel_rfl) (by kernel_rfl) fun Kc hK=> ?_
    go_simp
    refine (sameB (cmostParts_any t.op _)).mono ?_
    rintro e w1 ⟨rfl,hb⟩
    rw [HMO.out]
    refine hK.out _ _ ⟨hHeld.1.trans (hb.mono hHeld.1.size),zza hHeld.1 hHeld.2.1 kl hb,zza hHeld.1 hHeld.2.2 ul4 hb⟩ fun hHeld=> ?_
    clear hb
    clear hK Kc
    try simp only [Act.put,List.setIfInBounds_toArray,List.set_cons_zero,List.set_cons_succ]
    refine tkS 5 ⟨some 28,.binOp .lss 3 (.tmp 24) (.tmp 27) 3,4,"declare.go:124",#[⟨1,.data⟩,⟨4,.data⟩],none⟩ (v:= ?v2_5) hq hHeld rfl (by kernel_rfl) ?y2_5 ?_
    case y2_5=>(intro w h;try dsimp only at h);go_simp<;>with_reducible rfl
    try simp only [Act.put,List.setIfInBounds_toArray,List.set_cons_zero,List.set_cons_succ]
    refine clS 6 ⟨some 29,.call ⟨.value (.func 148),#[.tmp 23,.tmp 28,.const (.int .i64 4)],#[25,4,26]⟩,0,"declare.go:124",#[⟨0,.data⟩,⟨5,.data⟩,⟨4,.chain⟩],none⟩ rfl (by kernel_rfl) (by kernel_rfl) fun Kc hK=> ?_
    go_simp
    refine (zz2 N1.out BEW.out d2 4 _ hHeld.1).mono ?_
    rintro e w1 ⟨hb,he⟩
    cases d2 with
    |false=>obtain rfl:=he;exact ⟨rfl,uq_bad (BA.out _ (hHeld.1.trans (hb.mono hHeld.1.size))) (er:=4) (by rw [HTC.out,←HK.out,zwe hlt (by rw [HE.out];exact (by decide:(4:Nat)≠0)),HE.out];exact HF4.out) rfl⟩
    |true=>
    obtain rfl:=he
    refine hK.out _ _ ⟨hHeld.1.trans (hb.mono hHeld.1.size),zza hHeld.1 hHeld.2.1 kl hb,zza hHeld.1 hHeld.2.2 ul4 hb⟩ fun hHeld=> ?_
    clear hb
    clear hK Kc
    try simp only [Act.put,List.setIfInBounds_toArray,List.set_cons_zero,List.set_cons_succ]
    refine wpAnyH_done (by kernel_rfl) ?_ _
    go_wp2_with fail
    have k0:=hHeld.2.1
    have u4:=hHeld.2.2
    refine rgS (fun w'=>Below w4.heap.size w4 w'∧w'.cell? ⟨w2.heap.size,0,none⟩=some (.pointer (some ⟨nb,0,none⟩))∧w'.cell? ⟨w.heap.size,0,none⟩=some (.pointer (some ⟨b,0,none⟩))) (by kernel_rfl) (⟨hHeld.1.drew,k0,u4⟩) (fun _ a d v _ h=>And.intro ((zql a d v).symm.trans (And.left h)) (And.right h)) fun hHeld hq=> ?_
    refine tkS 0 ⟨some 30,.load 25 (.tmp 5),25,"declare.go:125",#[],none⟩ (v:= ?v3_0) hq hHeld rfl (by kernel_rfl) ?y3_0 ?_
    case y3_0=>(intro w h;try dsimp only at h);go_simp<;>with_reducible rfl
    try simp only [Act.put,List.setIfInBounds_toArray,List.set_cons_zero,List.set_cons_succ]
    refine tkS 1 ⟨some 31,.load 25 (.tmp 3),25,"declare.go:125",#[],none⟩ (v:= ?v3_1) hq hHeld rfl (by kernel_rfl) ?y3_1 ?_
    case y3_1=>(intro w h;try dsimp only at h);go_simp<;>with_reducible rfl
    try simp only [Act.put,List.setIfInBounds_toArray,List.set_cons_zero,List.set_cons_succ]
    refine tkS 2 ⟨some 32,.move (.tmp 4),3,"declare.go:125",#[],none⟩ (v:= ?v3_2) hq hHeld rfl (by kernel_rfl) ?y3_2 ?_
    case y3_2=>(intro w h;try dsimp only at h);go_simp<;>with_reducible rfl
    try simp only [Act.put,List.setIfInBounds_toArray,List.set_cons_zero,List.set_cons_succ]
    refine clS 3 ⟨some 33,.call ⟨.value (.func 149),#[.tmp 31,.tmp 32],#[25,3]⟩,4,"declare.go:125",#[⟨1,.data⟩,⟨2,.data⟩],none⟩ rfl (by kernel_rfl) (by kernel_rfl) fun Kc hK=> ?_
    go_simp
    refine (cnew_any E b t _ NN.out (BEW.out.trans (hHeld.1.mono BEW.out.size)) k u HU.out).mono ?_
    rintro e w1 ⟨rfl,hb⟩
    rw [HD.out]
    refine hK.out _ _ ⟨hHeld.1.trans (hb.mono hHeld.1.size),zza hHeld.1 hHeld.2.1 kl hb,zza hHeld.1 hHeld.2.2 ul4 hb⟩ fun hHeld=> ?_
    clear hb
    clear hK Kc
    try simp only [Act.put,List.setIfInBounds_toArray,List.set_cons_zero,List.set_cons_succ]
    refine clS 4 ⟨some 34,.call ⟨.value (.func 148),#[.tmp 30,.tmp 33,.const (.int .i64 6)],#[25,4,26]⟩,0,"declare.go:125",#[⟨0,.data⟩,⟨3,.data⟩,⟨3,.chain⟩],none⟩ rfl (by kernel_rfl) (by kernel_rfl) fun Kc hK=> ?_
    go_simp
    refine (zz2 N1.out BEW.out d 6 _ hHeld.1).mono ?_
    rintro e w1 ⟨hb,he⟩
    cases d with
    |false=>obtain rfl:=he;exact ⟨rfl,uq_bad (BA.out _ (hHeld.1.trans (hb.mono hHeld.1.size))) (er:=6) (by rw [HTC.out,←HK.out,zwe hlt (by rw [HE.out];exact (by decide:(6:Nat)≠0)),HE.out];exact HF6.out) rfl⟩
    |true=>
    obtain rfl:=he
    refine hK.out _ _ ⟨hHeld.1.trans (hb.mono hHeld.1.size),zza hHeld.1 hHeld.2.1 kl hb,zza hHeld.1 hHeld.2.2 ul4 hb⟩ fun hHeld=> ?_
    clear hb
    clear hK Kc
    try simp only [Act.put,List.setIfInBounds_toArray,List.set_cons_zero,List.set_cons_succ]
    refine wpAnyH_done (by kernel_rfl) ?_ _
    go_wp2_with fail
    have k0:=hHeld.2.1
    refine rgS (fun w'=>Below w4.heap.size w4 w'∧w'.cell? ⟨w2.heap.size,0,none⟩=some (.pointer (some ⟨nb,0,none⟩))) (by kernel_rfl) (⟨hHeld.1.drew,k0⟩) (fun _ a d v _ h=>And.intro ((zql a d v).symm.trans (And.left h)) (And.right h)) fun hHeld hq=> ?_
    refine tkS 0 ⟨some 35,.load 25 (.tmp 5),25,"declare.go:126",#[],none⟩ (v:= ?v4_0) hq hHeld rfl (by kernel_rfl) ?y4_0 ?_
    case y4_0=>(intro w h;try dsimp only at h);go_simp<;>with_reducible rfl
    try simp only [Act.put,List.setIfInBounds_toArray,List.set_cons_zero,List.set_cons_succ]
    refine tkS 1 ⟨some 36,.move (.tmp 0),40,"declare.go:126",#[],none⟩ (v:= ?v4_1) hq hHeld rfl (by kernel_rfl) ?y4_1 ?_
    case y4_1=>(intro w h;try dsimp only at h);go_simp<;>with_reducible rfl
    try simp only [Act.put,List.setIfInBounds_toArray,List.set_cons_zero,List.set_cons_succ]
    refine tkS 2 ⟨some 37,.load 25 (.tmp 5),25,"declare.go:126",#[],none⟩ (v:= ?v4_2) hq hHeld rfl (by kernel_rfl) ?y4_2 ?_
    case y4_2=>(intro w h;try dsimp only at h);go_simp<;>with_reducible rfl
    try simp only [Act.put,List.setIfInBounds_toArray,List.set_cons_zero,List.set_cons_succ]
    refine clS 3 ⟨some 38,.call ⟨.value (.func 43),#[.tmp 37],#[25]⟩,9,"declare.go:126",#[⟨2,.data⟩],none⟩ rfl (by kernel_rfl) (by kernel_rfl) fun Kc hK=> ?_
    go_simp
    refine (z02 N1.out BEW.out _ hHeld.1).mono ?_
    rintro e w1 ⟨rfl,hb⟩
    refine hK.out _ _ ⟨hHeld.1.trans (hb.mono hHeld.1.size),zza hHeld.1 hHeld.2 kl hb⟩ fun hHeld=> ?_
    clear hb
    clear hK Kc
    try simp only [Act.put,List.setIfInBounds_toArray,List.set_cons_zero,List.set_cons_succ]
    refine clS 4 ⟨some 39,.call ⟨.value (.func 118),#[.tmp 36,.tmp 38],#[40,9]⟩,4,"declare.go:126",#[⟨1,.data⟩,⟨3,.data⟩,⟨3,.chain⟩],none⟩ rfl (by kernel_rfl) (by kernel_rfl) fun Kc hK=> ?_
    go_simp
    refine (is_any A c ss.length ss (tp u) d3 _ (hid (HSR4.out.below hHeld.1 (Nat.le_refl _))) (hid rfl) (by omega) HD3).mono ?_
    rintro e w1 ⟨rfl,hb⟩
    refine hK.out _ _ ⟨hHeld.1.trans (hb.mono hHeld.1.size),zza hHeld.1 hHeld.2 kl hb⟩ fun hHeld=> ?_
    clear hb
    clear hK Kc
    try simp only [Act.put,List.setIfInBounds_toArray,List.set_cons_zero,List.set_cons_succ]
    refine clS 5 ⟨some 40,.call ⟨.value (.func 148),#[.tmp 35,.tmp 39,.const (.int .i64 5)],#[25,4,26]⟩,0,"declare.go:126",#[⟨0,.data⟩,⟨4,.data⟩,⟨4,.chain⟩],none⟩ rfl (by kernel_rfl) (by kernel_rfl) fun Kc hK=> ?_
    go_simp
    refine (zz2 N1.out BEW.out d3 5 _ hHeld.1).mono ?_
    rintro e w1 ⟨hb,he⟩
    cases d3 with
    |false=>obtain rfl:=he;exact ⟨rfl,uq_bad (BA.out _ (hHeld.1.trans (hb.mono hHeld.1.size))) (er:=5) (by rw [HTC.out,←HK.out,zwe hlt (by rw [HE.out];exact (by decide:(5:Nat)≠0)),HE.out];exact HF5.out) rfl⟩
    |true=>
    obtain rfl:=he
    refine hK.out _ _ ⟨hHeld.1.trans (hb.mono hHeld.1.size),zza hHeld.1 hHeld.2 kl hb⟩ fun hHeld=> ?_
    clear hb
    clear hK Kc
    try simp only [Act.put,List.setIfInBounds_toArray,List.set_cons_zero,List.set_cons_succ]
    refine wpAnyH_done (by kernel_rfl) ?_ _
    have hh:=hid (H4.out.trans (hHeld.1.mono H4.out.size))
    clear hHeld
    have hq:=hid ((zvf hlt (by rw [HE.out];rfl)).symm.trans HK.out)
    go_wp2_with fail
    go_roundw
    case rel=>exact ⟨k+1,by omega,by go_num,hq,hh.out⟩
    case measure=>simp [intOf];omega
   ·have hq:r=(0,0):=HK.out.symm.trans (zwf (by omega))
    subst hq
    have u0:=zza (Below.refl _ _) u0 ul HB.out
    go_wp2_with fail
    refine (z02 NN.out HB0.out _ HB.out).mono ?_
    rintro e w8 ⟨rfl,hb⟩
    have u0:=zza HB.out u0 ul hb
    have hh:=hid (HB.out.trans (hb.mono HB.out.size))
    clear hb
    cases e1 with
    |true=>
     go_wp2_with fail
     refine bodyPost_end (v:= .tuple #[]) (by simp [results,Tryz.results109,go_sem]) rfl ?_
     exact ⟨B0.out.trans (hh.out.mono B0.out.size),by rw [HTC.out];rfl⟩
    |false=>
     go_wp2_with fail
     refine rgS (fun w'=>Below wa.heap.size wa w'∧w'.cell? ⟨w.heap.size,0,none⟩=some (.pointer (some ⟨b,0,none⟩))) (by kernel_rfl) (⟨hh.out.drew,u0⟩) (fun _ a d v _ h=>And.intro ((zql a d v).symm.trans (And.left h)) (And.right h)) fun hHeld hq=> ?_
     refine tkS 0 ⟨some 45,.load 25 (.tmp 3),25,"declare.go:129",#[],none⟩ (v:= ?v5_0) hq hHeld rfl (by kernel_rfl) ?y5_0 ?_
     case y5_0=>(intro w h;try dsimp only at h);go_simp<;>with_reducible rfl
     try simp only [Act.put,List.setIfInBounds_toArray,List.set_cons_zero,List.set_cons_succ]
     refine tkS 1 ⟨some 46,.move (.tmp 0),40,"declare.go:129",#[],none⟩ (v:= ?v5_1) hq hHeld rfl (by kernel_rfl) ?y5_1 ?_
     case y5_1=>(intro w h;try dsimp only at h);go_simp<;>with_reducible rfl
     try simp only [Act.put,List.setIfInBounds_toArray,List.set_cons_zero,List.set_cons_succ]
     refine tkS 2 ⟨some 47,.load 25 (.tmp 3),25,"declare.go:129",#[],none⟩ (v:= ?v5_2) hq hHeld rfl (by kernel_rfl) ?y5_2 ?_
     case y5_2=>(intro w h;try dsimp only at h);go_simp<;>with_reducible rfl
     try simp only [Act.put,List.setIfInBounds_toArray,List.set_cons_zero,List.set_cons_succ]
     refine clS 3 ⟨some 48,.call ⟨.value (.func 43),#[.tmp 47],#[25]⟩,9,"declare.go:129",#[⟨2,.data⟩],none⟩ rfl (by kernel_rfl) (by kernel_rfl) fun Kc hK=> ?_
     go_simp
     refine (z02 NN.out HB0.out _ hHeld.1).mono ?_
     rintro e w1 ⟨rfl,hb⟩
     refine hK.out _ _ ⟨hHeld.1.trans (hb.mono hHeld.1.size),zza hHeld.1 hHeld.2 ul hb⟩ fun hHeld=> ?_
     clear hb
     clear hK Kc
     try simp only [Act.put,List.setIfInBounds_toArray,List.set_cons_zero,List.set_cons_succ]
     refine clS 4 ⟨some 49,.call ⟨.value (.func 118),#[.tmp 46,.tmp 48],#[40,9]⟩,4,"declare.go:129",#[⟨1,.data⟩,⟨3,.data⟩,⟨3,.chain⟩],none⟩ rfl (by kernel_rfl) (by kernel_rfl) fun Kc hK=> ?_
     go_simp
     refine (is_any A c ss.length ss (tp t) e2 _ (hid (HSR.out.below hHeld.1 (Nat.le_refl _))) (hid rfl) (by omega) HE2).mono ?_
     rintro e w1 ⟨rfl,hb⟩
     refine hK.out _ _ ⟨hHeld.1.trans (hb.mono hHeld.1.size),zza hHeld.1 hHeld.2 ul hb⟩ fun hHeld=> ?_
     clear hb
     clear hK Kc
     try simp only [Act.put,List.setIfInBounds_toArray,List.set_cons_zero,List.set_cons_succ]
     refine clS 5 ⟨some 50,.call ⟨.value (.func 148),#[.tmp 45,.tmp 49,.const (.int .i64 5)],#[25,4,26]⟩,0,"declare.go:129",#[⟨0,.data⟩,⟨4,.data⟩,⟨4,.chain⟩],none⟩ rfl (by kernel_rfl) (by kernel_rfl) fun Kc hK=> ?_
     go_simp
     refine (zz2 NN.out HB0.out e2 5 _ hHeld.1).mono ?_
     rintro e w1 ⟨hb,he⟩
     cases e2 with
     |false=>obtain rfl:=he;exact ⟨rfl,uq_bad (onB B0.out hHeld.1 hb) (er:=5) HTC.out rfl⟩
     |true=>
     obtain rfl:=he
     refine hK.out _ _ ⟨hHeld.1.trans (hb.mono hHeld.1.size),zza hHeld.1 hHeld.2 ul hb⟩ fun hHeld=> ?_
     clear hb
     clear hK Kc
     try simp only [Act.put,List.setIfInBounds_toArray,List.set_cons_zero,List.set_cons_succ]
     refine wpAnyH_done (by kernel_rfl) ?_ _
     go_wp2_with fail
     refine bodyPost_end (v:= .tuple #[]) (by simp [results,Tryz.results109,go_sem]) rfl ?_
     exact ⟨B0.out.trans (hHeld.1.mono B0.out.size),by rw [HTC.out];rfl⟩
structure Six6 (sb:Nat) (w:World):Prop where
 lt:sb<w.heap.size
 c:∀ k,k<6→∃ z,w.cell? ⟨sb,k,none⟩=some z
 f:∀ k,w.frozen? ⟨sb,k,none⟩=false
theorem Six6.below {sb:Nat} {w w':World} (h:Six6 sb w) (hb:Below w.heap.size w w'):Six6 sb w':=
 ⟨Nat.lt_of_lt_of_le h.lt hb.size,fun k hk=>(h.c k hk).imp fun _ hz=>(hb.cell (p:=⟨sb,k,none⟩) h.lt).trans hz,fun k=>(hb.frozen (p:=⟨sb,k,none⟩) h.lt).trans (h.f k)⟩
theorem Six6.new (w:World) (a b c d e g:Value) (t:TypeId):Six6 w.heap.size (w.alloc (.cells #[a,b,c,d,e,g] t)):=by
 refine ⟨by simp,fun k hk=> ?_,fun k=>by simp [go_sem]⟩
 have h:=zxa w #[a,b,c,d,e,g] t k
 match k,hk with
 |0,_=>exact ⟨_,h⟩
 |1,_=>exact ⟨_,h⟩
 |2,_=>exact ⟨_,h⟩
 |3,_=>exact ⟨_,h⟩
 |4,_=>exact ⟨_,h⟩
 |5,_=>exact ⟨_,h⟩
def put6 (w:World) (sb:Nat) (a b c d e g:Value):World:=(((((w.setCell ⟨sb,0,none⟩ a).setCell ⟨sb,1,none⟩ b).setCell ⟨sb,2,none⟩ c).setCell ⟨sb,3,none⟩ d).setCell ⟨sb,4,none⟩ e).setCell ⟨sb,5,none⟩ g
theorem put6_cells {w:World} {sb:Nat} (h:Six6 sb w) (a b c d e g:Value):(put6 w sb a b c d e g).cell? ⟨sb,0,none⟩=some a∧(put6 w sb a b c d e g).cell? ⟨sb,1,none⟩=some b∧(put6 w sb a b c d e g).cell? ⟨sb,2,none⟩=some c∧(put6 w sb a b c d e g).cell? ⟨sb,3,none⟩=some d∧(put6 w sb a b c d e g).cell? ⟨sb,4,none⟩=some e∧(put6 w sb a b c d e g).cell? ⟨sb,5,none⟩=some g:=by
 obtain ⟨z0,h0⟩:=h.c 0 (by decide)
 obtain ⟨z1,h1⟩:=h.c 1 (by decide)
 obtain ⟨z2,h2⟩:=h.c 2 (by decide)
 obtain ⟨z3,h3⟩:=h.c 3 (by decide)
 obtain ⟨z4,h4⟩:=h.c 4 (by decide)
 obtain ⟨z5,h5⟩:=h.c 5 (by decide)
 have s:∀ (i j:Nat) (x:Value) (w:World),i≠j→(w.setCell ⟨sb,i,none⟩ x).cell? ⟨sb,j,none⟩=w.cell? ⟨sb,j,none⟩:=fun i j x w hh=>zqk hh
 have m:∀ (i:Nat) (x z:Value) (w:World),w.cell? ⟨sb,i,none⟩=some z→(w.setCell ⟨sb,i,none⟩ x).cell? ⟨sb,i,none⟩=some x:=fun i x z w hh=>World.cell?_setCell_same _ _ _ hh
 unfold put6
 refine ⟨?_,?_,?_,?_,?_,?_⟩
 ·rw [s 5 0 _ _ (by decide),s 4 0 _ _ (by decide),s 3 0 _ _ (by decide),s 2 0 _ _ (by decide),s 1 0 _ _ (by decide)];exact m 0 _ _ _ h0
 ·rw [s 5 1 _ _ (by decide),s 4 1 _ _ (by decide),s 3 1 _ _ (by decide),s 2 1 _ _ (by decide)];exact m 1 _ z1 _ (by rw [s 0 1 _ _ (by decide)];exact h1)
 ·rw [s 5 2 _ _ (by decide),s 4 2 _ _ (by decide),s 3 2 _ _ (by decide)];exact m 2 _ z2 _ (by rw [s 1 2 _ _ (by decide),s 0 2 _ _ (by decide)];exact h2)
 ·rw [s 5 3 _ _ (by decide),s 4 3 _ _ (by decide)];exact m 3 _ z3 _ (by rw [s 2 3 _ _ (by decide),s 1 3 _ _ (by decide),s 0 3 _ _ (by decide)];exact h3)
 ·rw [s 5 4 _ _ (by decide)];exact m 4 _ z4 _ (by rw [s 3 4 _ _ (by decide),s 2 4 _ _ (by decide),s 1 4 _ _ (by decide),s 0 4 _ _ (by decide)];exact h4)
 ·exact m 5 _ z5 _ (by rw [s 4 5 _ _ (by decide),s 3 5 _ _ (by decide),s 2 5 _ _ (by decide),s 1 5 _ _ (by decide),s 0 5 _ _ (by decide)];exact h5)
theorem z1e (w:World) (sb:Nat) (a b c d e g:Value):w.grownBy (put6 w sb a b c d e g) (some sb):=
 ((((zxf w ⟨sb,0,none⟩ a).trans (zxf _ ⟨sb,1,none⟩ b)).trans (zxf _ ⟨sb,2,none⟩ c)).trans (zxf _ ⟨sb,3,none⟩ d)).trans (zxf _ ⟨sb,4,none⟩ e) |>.trans (zxf _ ⟨sb,5,none⟩ g)
theorem put6_frozen (w:World) (sb:Nat) (a b c d e g:Value) (k:Nat):(put6 w sb a b c d e g).frozen? ⟨sb,k,none⟩=w.frozen? ⟨sb,k,none⟩:=by
 unfold put6;simp only [World.frozen?_setCell]
theorem keepC2 {w' w'':World} {p:Addr} {x:Value} (hc:w'.cell? p=some x) (hb:Below w'.heap.size w' w''):w''.cell? p=some x:=(hb.cell (World.block_lt_of_cell? w' p hc)).trans hc
def cE (E:CE) (w:World) (res:ByteArray) (sb:Nat):CE:= { E with w0:=w,res:=res,sb:=sb }
theorem cE_im {E:CE} {w:World} {res:ByteArray} {sb:Nat} (I:IM E w):IM (cE E w res sb) w:=⟨I.good,I.S,I.G,I.F,I.sl,I.gl,I.fl,I.sle,I.gle,I.fle⟩
theorem sc_made {E:CE} {w w':World} {res:ByteArray} {sb:Nat} {v:Value} {K:List Fld} (I:IM E w) (hB:Below w.heap.size w w') (h0:w.heap.size≤sb) (hx:Six6 sb w') (ho:w'.ownsRow w.heap.size 97 2 v K.length (zqr K)) (hne:v.ownBlock≠some sb) (hl:K.length≤100000):
 SC (cE E w res sb) (put6 w' sb (.slice E.sA E.x.structs.length E.sc) (.slice E.gA E.x.globals.length E.gc) (.slice E.fA E.x.funs.length E.fc) (.string res) v (.int .i64 0)) v K 0:=by
 have hg:=z1e w' sb (.slice E.sA E.x.structs.length E.sc) (.slice E.gA E.x.globals.length E.gc) (.slice E.fA E.x.funs.length E.fc) (.string res) v (.int .i64 0)
 obtain ⟨c0,c1,c2,c3,c4,c5⟩:=put6_cells hx (.slice E.sA E.x.structs.length E.sc) (.slice E.gA E.x.globals.length E.gc) (.slice E.fA E.x.funs.length E.fc) (.string res) v (.int .i64 0)
 exact { B:=⟨hg.os.trans hB.os,hg.tape.trans hB.tape,hg.output.trans hB.output,Nat.le_trans hB.size hg.size,fun k hk=>(hg.block k (Nat.lt_of_lt_of_le hk hB.size) (fun e=>by have h9:k=sb:=Option.some.inj e;have h8:k<w.heap.size:=hk;omega)).trans (hB.block k hk)⟩,sb0:=h0,lt:=Nat.lt_of_lt_of_le hx.lt hg.size,c0:=c0,c1:=c1,c2:=c2,c3:=c3,c4:=c4,c5:=c5,fr:=fun k=>(put6_frozen _ _ _ _ _ _ _ _ k).trans (hx.f k),own:=ho.kept hg (.inr hne),ne:=hne,im:=cE_im I,kl:=hl,fle:=Nat.zero_le _ }
theorem cbody_any (E:CE) (b:Nat) (t:Tree) (w:World) (N:Nd E b t) (hB:Below E.w0.heap.size E.w0 w) (I:IM E w) (hx:Hid (z1o E.x)) (d:Tree) (hd:t.kids[t.kids.length - 1]? =some d) (hk:t.op=4→1≤t.kids.length) (hKo:KOk E.x (zzp t)) (hz:(zzp t).length+zxz d.kids≤100000) (W:∀ u∈d.kids,Wt u):
 Calls Tryz.prog 110 #[infV E,.agg #[.pointer (some ⟨b,0,none⟩)]] w (UQ E w ((zxm E.x (tp t) d.kids (zzp t) 0).bind fun _=> .ok ())):=by
 have B0:=hid (b2 w (.cells #[.slice E.sA E.x.structs.length E.sc,.slice E.gA E.x.globals.length E.gc,.slice E.fA E.x.funs.length E.fc] 44) (.cells #[.pointer (some ⟨b,0,none⟩)] 25))
 have hB0:=hid hB
 have HB0:=hid (hB.trans ((b2 w (.cells #[.slice E.sA E.x.structs.length E.sc,.slice E.gA E.x.globals.length E.gc,.slice E.fA E.x.funs.length E.fc] 44) (.cells #[.pointer (some ⟨b,0,none⟩)] 25)).mono hB.size))
 have NN:=hid N
 have IW:=hid I
 have HKK:=hid hk
 have HKO:=hid hKo
 have hK6:(zzp t).length≤100000:=by omega
 have hm6:t.kids.length≤6000:=by obtain ⟨-,-,-,-,h,-⟩:=N.kid;omega
 have hm1:1≤t.kids.length:=by have:=(List.getElem?_eq_some_iff.1 hd).1;omega
 obtain ⟨nb,hn,hkd⟩:=zx8 N hB (t.kids.length - 1) d hd
 have KD0:=hid hkd
 have hN1:=hid hn
 have i0:((w.alloc (.cells #[.slice E.sA E.x.structs.length E.sc,.slice E.gA E.x.globals.length E.gc,.slice E.fA E.x.funs.length E.fc] 44)).alloc (.cells #[.pointer (some ⟨b,0,none⟩)] 25)).cell? ⟨w.heap.size,0,none⟩=some (.slice E.sA E.x.structs.length E.sc):=(World.cell?_alloc_lt _ _ _ (by simp)).trans (zxa w _ 44 0)
 have i1:((w.alloc (.cells #[.slice E.sA E.x.structs.length E.sc,.slice E.gA E.x.globals.length E.gc,.slice E.fA E.x.funs.length E.fc] 44)).alloc (.cells #[.pointer (some ⟨b,0,none⟩)] 25)).cell? ⟨w.heap.size,1,none⟩=some (.slice E.gA E.x.globals.length E.gc):=(World.cell?_alloc_lt _ _ _ (by simp)).trans (zxa w _ 44 1)
 have i2:((w.alloc (.cells #[.slice E.sA E.x.structs.length E.sc,.slice E.gA E.x.globals.length E.gc,.slice E.fA E.x.funs.length E.fc] 44)).alloc (.cells #[.pointer (some ⟨b,0,none⟩)] 25)).cell? ⟨w.heap.size,2,none⟩=some (.slice E.fA E.x.funs.length E.fc):=(World.cell?_alloc_lt _ _ _ (by simp)).trans (zxa w _ 44 2)
 have u0:((w.alloc (.cells #[.slice E.sA E.x.structs.length E.sc,.slice E.gA E.x.globals.length E.gc,.slice E.fA E.x.funs.length E.fc] 44)).alloc (.cells #[.pointer (some ⟨b,0,none⟩)] 25)).cell? ⟨w.heap.size+1,0,none⟩=some (.pointer (some ⟨b,0,none⟩)):=zxh w _ _ _ _ 0
 have il:w.heap.size<((w.alloc (.cells #[.slice E.sA E.x.structs.length E.sc,.slice E.gA E.x.globals.length E.gc,.slice E.fA E.x.funs.length E.fc] 44)).alloc (.cells #[.pointer (some ⟨b,0,none⟩)] 25)).heap.size:=by simp;omega
 have ul:w.heap.size+1<((w.alloc (.cells #[.slice E.sA E.x.structs.length E.sc,.slice E.gA E.x.globals.length E.gc,.slice E.fA E.x.funs.length E.fc] 44)).alloc (.cells #[.pointer (some ⟨b,0,none⟩)] 25)).heap.size:=by simp
 have B0s:w.heap.size+2≤((w.alloc (.cells #[.slice E.sA E.x.structs.length E.sc,.slice E.gA E.x.globals.length E.gc,.slice E.fA E.x.funs.length E.fc] 44)).alloc (.cells #[.pointer (some ⟨b,0,none⟩)] 25)).heap.size:=by simp
 obtain ⟨r,hr⟩:∃ r,zxm E.x (tp t) d.kids (zzp t) 0=r:=⟨_,rfl⟩
 have HR:=hid hr
 have IH:Hid (∀ sb (k:Nat) (u:Tree),d.kids[k]? =some u→YH (cE E w (tp t) sb) u):=fun sb k u hu=>cstmt_any (cE E w (tp t) sb) hx.out (zxs u) u (Nat.le_refl _) (W u (List.mem_of_getElem? hu))
 unfold infV
 rw [hr]
 clear N I hk hKo hn hkd hr W
 go_enter Tryz.func110,Tryz.ntmps110
 go_upto_region 1 with fail
 generalize (w.alloc (.cells #[.slice E.sA E.x.structs.length E.sc,.slice E.gA E.x.globals.length E.gc,.slice E.fA E.x.funs.length E.fc] 44)).alloc (.cells #[.pointer (some ⟨b,0,none⟩)] 25)=wa at*
 go_cut [4] from 5 (fun s wc=>∃ sb v,s= .pointer (some ⟨sb,0,none⟩)∧SC (cE E w (tp t) sb) wc v (zzp t) 0∧w.heap.size+2≤sb∧v.ownBlock≠some (w.heap.size+1)∧wc.cell? ⟨w.heap.size+1,0,none⟩=some (.pointer (some ⟨b,0,none⟩)))
 case first=>
  refine rgX (fun w'=>Below wa.heap.size wa w'∧w'.cell? ⟨w.heap.size,0,none⟩=some (.slice E.sA E.x.structs.length E.sc)∧w'.cell? ⟨w.heap.size,1,none⟩=some (.slice E.gA E.x.globals.length E.gc)∧w'.cell? ⟨w.heap.size,2,none⟩=some (.slice E.fA E.x.funs.length E.fc)∧w'.cell? ⟨w.heap.size+1,0,none⟩=some (.pointer (some ⟨b,0,none⟩))) [7] (by kernel_rfl) ⟨(Below.refl _ _).drew,i0,i1,i2,u0⟩ (fun _ a d v _ h=>And.intro ((zql a d v).symm.trans (And.left h)) (And.right h)) fun hHeld hq=> ?_
  generalize wa.drew=wd at*
  refine tkX 0 ⟨some 5,.load 44 (.tmp 2),44,"body.go:19",#[],none⟩ (v:= ?vb1) hq hHeld rfl (by kernel_rfl) ?yb1 ?_
  case yb1=>(intro w h;try dsimp only at h);go_simp<;>with_reducible rfl
  try simp only [Act.put,List.setIfInBounds_toArray,List.set_cons_zero,List.set_cons_succ]
  refine tkX 1 ⟨some 6,.load 25 (.tmp 3),25,"body.go:19",#[],none⟩ (v:= ?vb2) hq hHeld rfl (by kernel_rfl) ?yb2 ?_
  case yb2=>(intro w h;try dsimp only at h);go_simp<;>with_reducible rfl
  try simp only [Act.put,List.setIfInBounds_toArray,List.set_cons_zero,List.set_cons_succ]
  refine tkX 3 ⟨some 8,.load 25 (.tmp 3),25,"body.go:19",#[],none⟩ (v:= ?vb3) hq hHeld rfl (by kernel_rfl) ?yb3 ?_
  case yb3=>(intro w h;try dsimp only at h);go_simp<;>with_reducible rfl
  try simp only [Act.put,List.setIfInBounds_toArray,List.set_cons_zero,List.set_cons_succ]
  refine clX2 2 6 ⟨some 7,.call ⟨.value (.func 43),#[.tmp 6],#[25]⟩,9,"body.go:19",#[⟨1,.data⟩],none⟩ ⟨some 4,.alloc 179,0,"body.go:19",#[],none⟩ rfl rfl (by kernel_rfl) (by kernel_rfl) (by kernel_rfl) (fun Kc hK=> ?_) (fun Kc hK=> ?_)
  ·go_simp
   refine (z02 NN.out HB0.out _ hHeld.1).mono ?_
   rintro e w5 ⟨rfl,hb⟩
   have hHeld:(fun w'=>Below wa.heap.size wa w'∧w'.cell? ⟨w.heap.size,0,none⟩=some (.slice E.sA E.x.structs.length E.sc)∧w'.cell? ⟨w.heap.size,1,none⟩=some (.slice E.gA E.x.globals.length E.gc)∧w'.cell? ⟨w.heap.size,2,none⟩=some (.slice E.fA E.x.funs.length E.fc)∧w'.cell? ⟨w.heap.size+1,0,none⟩=some (.pointer (some ⟨b,0,none⟩))) _:=⟨hHeld.1.trans (hb.mono hHeld.1.size),zza hHeld.1 hHeld.2.1 il hb,zza hHeld.1 hHeld.2.2.1 il hb,zza hHeld.1 hHeld.2.2.2.1 il hb,zza hHeld.1 hHeld.2.2.2.2 ul hb⟩
   refine hK.out _ _ (fun _ _=>hHeld) ?_
   clear hK Kc
   try simp only [Act.put,List.setIfInBounds_toArray,List.set_cons_zero,List.set_cons_succ]
   clear hb
   refine clX2 4 6 ⟨some 9,.call ⟨.value (.func 145),#[.tmp 8],#[25]⟩,41,"body.go:19",#[⟨3,.data⟩,⟨2,.chain⟩],none⟩ ⟨some 4,.alloc 179,0,"body.go:19",#[],none⟩ rfl rfl (by kernel_rfl) (by kernel_rfl) (by kernel_rfl) (fun Kc hK=> ?_) (fun Kc hK=> ?_)
   ·go_simp
    refine (zwq E b t _ NN.out (HB0.out.trans (hHeld.1.mono HB0.out.size)) HKK.out).mono ?_
    rintro e w6 ⟨pv,rfl,hpo,hb⟩
    obtain ⟨PA,pc,rfl,-⟩:=zv3 hpo
    have OP:=hid hpo
    have hsz:=hHeld.1.size
    have OP:=hid (zjj OP.out hsz)
    have hHeld:(fun w'=>Below wa.heap.size wa w'∧w'.cell? ⟨w.heap.size,0,none⟩=some (.slice E.sA E.x.structs.length E.sc)∧w'.cell? ⟨w.heap.size,1,none⟩=some (.slice E.gA E.x.globals.length E.gc)∧w'.cell? ⟨w.heap.size,2,none⟩=some (.slice E.fA E.x.funs.length E.fc)∧w'.cell? ⟨w.heap.size+1,0,none⟩=some (.pointer (some ⟨b,0,none⟩))) _:=⟨hHeld.1.trans (hb.mono hHeld.1.size),zza hHeld.1 hHeld.2.1 il hb,zza hHeld.1 hHeld.2.2.1 il hb,zza hHeld.1 hHeld.2.2.2.1 il hb,zza hHeld.1 hHeld.2.2.2.2 ul hb⟩
    refine hK.out _ _ (fun _ _=>hHeld) ?_
    clear hK Kc
    try simp only [Act.put,List.setIfInBounds_toArray,List.set_cons_zero,List.set_cons_succ]
    clear hb hpo hsz
    refine twX 5 ⟨some 10,.build 179 #[(0,.tmp 5),(1,.tmp 7),(2,.tmp 9)],179,"body.go:19",#[⟨0,.data⟩,⟨2,.data⟩,⟨4,.data⟩],none⟩ (v:= ?vb4) hq rfl (by kernel_rfl) ?yb4 ?_
    case yb4=>intro w;go_simp<;>with_reducible rfl
    try simp only [Act.put,List.setIfInBounds_toArray,List.set_cons_zero,List.set_cons_succ]
    refine clX 6 ⟨some 4,.alloc 179,0,"body.go:19",#[],none⟩ rfl (by kernel_rfl) (by kernel_rfl) fun Kc hK=> ?_
    go_simp
    obtain ⟨sbk,hsbk⟩:∃ k,w6.heap.size=k:=⟨_,rfl⟩
    have SX:=hid (Six6.new w6 (.slice none 0 0) (.slice none 0 0) (.slice none 0 0) (.string ⟨#[]⟩) (.slice none 0 0) (.int .i64 0) 179)
    have hb:=b1 w6 (.cells #[.slice none 0 0,.slice none 0 0,.slice none 0 0,.string ⟨#[]⟩,.slice none 0 0,.int .i64 0] 179)
    have hsb0:wa.heap.size≤sbk:=by have:=hHeld.1.size;omega
    have hne:(Value.slice PA (zzp t).length pc).ownBlock≠some sbk:=fun e=>by have h1:=(OP.out.lt _ e).2;omega
    have OP:=hid (zkb OP.out hb)
    rw [hsbk] at SX
    try rw [hsbk]
    have hHeld:(fun w'=>Below wa.heap.size wa w'∧w'.cell? ⟨w.heap.size,0,none⟩=some (.slice E.sA E.x.structs.length E.sc)∧w'.cell? ⟨w.heap.size,1,none⟩=some (.slice E.gA E.x.globals.length E.gc)∧w'.cell? ⟨w.heap.size,2,none⟩=some (.slice E.fA E.x.funs.length E.fc)∧w'.cell? ⟨w.heap.size+1,0,none⟩=some (.pointer (some ⟨b,0,none⟩))) _:=⟨hHeld.1.trans (hb.mono hHeld.1.size),zza hHeld.1 hHeld.2.1 il hb,zza hHeld.1 hHeld.2.2.1 il hb,zza hHeld.1 hHeld.2.2.2.1 il hb,zza hHeld.1 hHeld.2.2.2.2 ul hb⟩
    refine hK.out _ _ (fun _ _=>hHeld) ?_
    clear hK Kc
    try simp only [Act.put,List.setIfInBounds_toArray,List.set_cons_zero,List.set_cons_succ]
    generalize w6.alloc (.cells #[.slice none 0 0,.slice none 0 0,.slice none 0 0,.string ⟨#[]⟩,.slice none 0 0,.int .i64 0] 179)=w7 at*
    clear hb hsbk
    refine clX 7 ⟨none,.store 179 (.tmp 4) (.tmp 10),0,"body.go:19",#[⟨6,.data⟩,⟨5,.data⟩,⟨4,.chain⟩,⟨0,.phase⟩,⟨1,.phase⟩,⟨2,.phase⟩,⟨3,.phase⟩,⟨4,.phase⟩,⟨5,.phase⟩,⟨6,.phase⟩],none⟩ rfl (by kernel_rfl) (by kernel_rfl) fun Kc hK=> ?_
    have z0:=SX.out.c 0 (by decide)
    have z1:=SX.out.c 1 (by decide)
    have z2:=SX.out.c 2 (by decide)
    have z3:=SX.out.c 3 (by decide)
    have z4:=SX.out.c 4 (by decide)
    have z5:=SX.out.c 5 (by decide)
    obtain ⟨y0,z0⟩:=z0
    obtain ⟨y1,z1⟩:=z1
    obtain ⟨y2,z2⟩:=z2
    obtain ⟨y3,z3⟩:=z3
    obtain ⟨y4,z4⟩:=z4
    obtain ⟨y5,z5⟩:=z5
    have g0:=SX.out.f 0
    have g1:=SX.out.f 1
    have g2:=SX.out.f 2
    have g3:=SX.out.f 3
    have g4:=SX.out.f 4
    have g5:=SX.out.f 5
    go_simp
    refine hK.out _ _ (fun h=>absurd h (by decide)) ?_
    clear hK Kc
    try simp only [Act.put,List.setIfInBounds_toArray,List.set_cons_zero,List.set_cons_succ]
    refine dnX (by kernel_rfl) ?_ _
    have HSC:=hid (sc_made (res:=tp t) IW.out (B0.out.trans (hHeld.1.mono B0.out.size)) (Nat.le_trans B0.out.size hsb0) SX.out (zjj OP.out B0.out.size) hne hK6)
    have hU:=(z1e w7 sbk (.slice E.sA E.x.structs.length E.sc) (.slice E.gA E.x.globals.length E.gc) (.slice E.fA E.x.funs.length E.fc) (.string (tp t)) (.slice PA (zzp t).length pc) (.int .i64 0)).cell_far ⟨w.heap.size+1,0,none⟩ (Nat.lt_of_lt_of_le ul hHeld.1.size) (fun e=>by have h9:w.heap.size+1=sbk:=Option.some.inj e;omega)
    have HU:=hid (hU.trans hHeld.2.2.2.2)
    clear hU z0 z1 z2 z3 z4 z5
    go_wp2_with fail
    go_meet
    case rel=>exact ⟨sbk,_,rfl,HSC.out,Nat.le_trans B0s hsb0,fun e=>(by have h1:=(OP.out.lt _ e).1;omega),HU.out⟩
   ·go_simp
    obtain ⟨sbk,hsbk⟩:∃ k,w5.heap.size=k:=⟨_,rfl⟩
    have SX:=hid (Six6.new w5 (.slice none 0 0) (.slice none 0 0) (.slice none 0 0) (.string ⟨#[]⟩) (.slice none 0 0) (.int .i64 0) 179)
    have hb:=b1 w5 (.cells #[.slice none 0 0,.slice none 0 0,.slice none 0 0,.string ⟨#[]⟩,.slice none 0 0,.int .i64 0] 179)
    have hsb0:wa.heap.size≤sbk:=by have:=hHeld.1.size;omega
    rw [hsbk] at SX
    try rw [hsbk]
    have hHeld:(fun w'=>Below wa.heap.size wa w'∧w'.cell? ⟨w.heap.size,0,none⟩=some (.slice E.sA E.x.structs.length E.sc)∧w'.cell? ⟨w.heap.size,1,none⟩=some (.slice E.gA E.x.globals.length E.gc)∧w'.cell? ⟨w.heap.size,2,none⟩=some (.slice E.fA E.x.funs.length E.fc)∧w'.cell? ⟨w.heap.size+1,0,none⟩=some (.pointer (some ⟨b,0,none⟩))) _:=⟨hHeld.1.trans (hb.mono hHeld.1.size),zza hHeld.1 hHeld.2.1 il hb,zza hHeld.1 hHeld.2.2.1 il hb,zza hHeld.1 hHeld.2.2.2.1 il hb,zza hHeld.1 hHeld.2.2.2.2 ul hb⟩
    refine hK.out _ _ (fun _ _=>hHeld) ?_
    clear hK Kc
    try simp only [Act.put,List.setIfInBounds_toArray,List.set_cons_zero,List.set_cons_succ]
    generalize w5.alloc (.cells #[.slice none 0 0,.slice none 0 0,.slice none 0 0,.string ⟨#[]⟩,.slice none 0 0,.int .i64 0] 179)=w7 at*
    clear hb hsbk
    refine clX 4 ⟨some 9,.call ⟨.value (.func 145),#[.tmp 8],#[25]⟩,41,"body.go:19",#[⟨3,.data⟩,⟨2,.chain⟩],none⟩ rfl (by kernel_rfl) (by kernel_rfl) fun Kc hK=> ?_
    go_simp
    refine (zwq E b t _ NN.out (HB0.out.trans (hHeld.1.mono HB0.out.size)) HKK.out).mono ?_
    rintro e w6 ⟨pv,rfl,hpo,hb⟩
    obtain ⟨PA,pc,rfl,-⟩:=zv3 hpo
    have OP:=hid hpo
    have hsz:=hHeld.1.size
    have hne:(Value.slice PA (zzp t).length pc).ownBlock≠some sbk:=fun e=>by have h1:=(OP.out.lt _ e).1;have h2:=SX.out.lt;omega
    have SX:=hid (SX.out.below hb)
    have OP:=hid (zjj OP.out hsz)
    have hHeld:(fun w'=>Below wa.heap.size wa w'∧w'.cell? ⟨w.heap.size,0,none⟩=some (.slice E.sA E.x.structs.length E.sc)∧w'.cell? ⟨w.heap.size,1,none⟩=some (.slice E.gA E.x.globals.length E.gc)∧w'.cell? ⟨w.heap.size,2,none⟩=some (.slice E.fA E.x.funs.length E.fc)∧w'.cell? ⟨w.heap.size+1,0,none⟩=some (.pointer (some ⟨b,0,none⟩))) _:=⟨hHeld.1.trans (hb.mono hHeld.1.size),zza hHeld.1 hHeld.2.1 il hb,zza hHeld.1 hHeld.2.2.1 il hb,zza hHeld.1 hHeld.2.2.2.1 il hb,zza hHeld.1 hHeld.2.2.2.2 ul hb⟩
    refine hK.out _ _ (fun _ _=>hHeld) ?_
    clear hK Kc
    try simp only [Act.put,List.setIfInBounds_toArray,List.set_cons_zero,List.set_cons_succ]
    clear hb hpo hsz
    refine twX 5 ⟨some 10,.build 179 #[(0,.tmp 5),(1,.tmp 7),(2,.tmp 9)],179,"body.go:19",#[⟨0,.data⟩,⟨2,.data⟩,⟨4,.data⟩],none⟩ (v:= ?vb5) hq rfl (by kernel_rfl) ?yb5 ?_
    case yb5=>intro w;go_simp<;>with_reducible rfl
    try simp only [Act.put,List.setIfInBounds_toArray,List.set_cons_zero,List.set_cons_succ]
    refine clX 7 ⟨none,.store 179 (.tmp 4) (.tmp 10),0,"body.go:19",#[⟨6,.data⟩,⟨5,.data⟩,⟨4,.chain⟩,⟨0,.phase⟩,⟨1,.phase⟩,⟨2,.phase⟩,⟨3,.phase⟩,⟨4,.phase⟩,⟨5,.phase⟩,⟨6,.phase⟩],none⟩ rfl (by kernel_rfl) (by kernel_rfl) fun Kc hK=> ?_
    have z0:=SX.out.c 0 (by decide)
    have z1:=SX.out.c 1 (by decide)
    have z2:=SX.out.c 2 (by decide)
    have z3:=SX.out.c 3 (by decide)
    have z4:=SX.out.c 4 (by decide)
    have z5:=SX.out.c 5 (by decide)
    obtain ⟨y0,z0⟩:=z0
    obtain ⟨y1,z1⟩:=z1
    obtain ⟨y2,z2⟩:=z2
    obtain ⟨y3,z3⟩:=z3
    obtain ⟨y4,z4⟩:=z4
    obtain ⟨y5,z5⟩:=z5
    have g0:=SX.out.f 0
    have g1:=SX.out.f 1
    have g2:=SX.out.f 2
    have g3:=SX.out.f 3
    have g4:=SX.out.f 4
    have g5:=SX.out.f 5
    go_simp
    refine hK.out _ _ (fun h=>absurd h (by decide)) ?_
    clear hK Kc
    try simp only [Act.put,List.setIfInBounds_toArray,List.set_cons_zero,List.set_cons_succ]
    refine dnX (by kernel_rfl) ?_ _
    have HSC:=hid (sc_made (res:=tp t) IW.out (B0.out.trans (hHeld.1.mono B0.out.size)) (Nat.le_trans B0.out.size hsb0) SX.out (zjj OP.out B0.out.size) hne hK6)
    have hU:=(z1e w6 sbk (.slice E.sA E.x.structs.length E.sc) (.slice E.gA E.x.globals.length E.gc) (.slice E.fA E.x.funs.length E.fc) (.string (tp t)) (.slice PA (zzp t).length pc) (.int .i64 0)).cell_far ⟨w.heap.size+1,0,none⟩ (Nat.lt_of_lt_of_le ul hHeld.1.size) (fun e=>by have h9:w.heap.size+1=sbk:=Option.some.inj e;omega)
    have HU:=hid (hU.trans hHeld.2.2.2.2)
    clear hU z0 z1 z2 z3 z4 z5
    go_wp2_with fail
    go_meet
    case rel=>exact ⟨sbk,_,rfl,HSC.out,Nat.le_trans B0s hsb0,fun e=>(by have h1:=(OP.out.lt _ e).1;omega),HU.out⟩
  ·go_simp
   obtain ⟨sbk,hsbk⟩:∃ k,wd.heap.size=k:=⟨_,rfl⟩
   have SX:=hid (Six6.new wd (.slice none 0 0) (.slice none 0 0) (.slice none 0 0) (.string ⟨#[]⟩) (.slice none 0 0) (.int .i64 0) 179)
   have hb:=b1 wd (.cells #[.slice none 0 0,.slice none 0 0,.slice none 0 0,.string ⟨#[]⟩,.slice none 0 0,.int .i64 0] 179)
   have hsb0:wa.heap.size≤sbk:=by have:=hHeld.1.size;omega
   rw [hsbk] at SX
   try rw [hsbk]
   have hHeld:(fun w'=>Below wa.heap.size wa w'∧w'.cell? ⟨w.heap.size,0,none⟩=some (.slice E.sA E.x.structs.length E.sc)∧w'.cell? ⟨w.heap.size,1,none⟩=some (.slice E.gA E.x.globals.length E.gc)∧w'.cell? ⟨w.heap.size,2,none⟩=some (.slice E.fA E.x.funs.length E.fc)∧w'.cell? ⟨w.heap.size+1,0,none⟩=some (.pointer (some ⟨b,0,none⟩))) _:=⟨hHeld.1.trans (hb.mono hHeld.1.size),zza hHeld.1 hHeld.2.1 il hb,zza hHeld.1 hHeld.2.2.1 il hb,zza hHeld.1 hHeld.2.2.2.1 il hb,zza hHeld.1 hHeld.2.2.2.2 ul hb⟩
   refine hK.out _ _ (fun _ _=>hHeld) ?_
   clear hK Kc
   try simp only [Act.put,List.setIfInBounds_toArray,List.set_cons_zero,List.set_cons_succ]
   generalize wd.alloc (.cells #[.slice none 0 0,.slice none 0 0,.slice none 0 0,.string ⟨#[]⟩,.slice none 0 0,.int .i64 0] 179)=w7 at*
   clear hb hsbk
   refine clX 2 ⟨some 7,.call ⟨.value (.func 43),#[.tmp 6],#[25]⟩,9,"body.go:19",#[⟨1,.data⟩],none⟩ rfl (by kernel_rfl) (by kernel_rfl) fun Kc hK=> ?_
   go_simp
   refine (z02 NN.out HB0.out _ hHeld.1).mono ?_
   rintro e w5 ⟨rfl,hb⟩
   have SX:=hid (SX.out.below hb)
   have hHeld:(fun w'=>Below wa.heap.size wa w'∧w'.cell? ⟨w.heap.size,0,none⟩=some (.slice E.sA E.x.structs.length E.sc)∧w'.cell? ⟨w.heap.size,1,none⟩=some (.slice E.gA E.x.globals.length E.gc)∧w'.cell? ⟨w.heap.size,2,none⟩=some (.slice E.fA E.x.funs.length E.fc)∧w'.cell? ⟨w.heap.size+1,0,none⟩=some (.pointer (some ⟨b,0,none⟩))) _:=⟨hHeld.1.trans (hb.mono hHeld.1.size),zza hHeld.1 hHeld.2.1 il hb,zza hHeld.1 hHeld.2.2.1 il hb,zza hHeld.1 hHeld.2.2.2.1 il hb,zza hHeld.1 hHeld.2.2.2.2 ul hb⟩
   refine hK.out _ _ (fun _ _=>hHeld) ?_
   clear hK Kc
   try simp only [Act.put,List.setIfInBounds_toArray,List.set_cons_zero,List.set_cons_succ]
   clear hb
   refine clX 4 ⟨some 9,.call ⟨.value (.func 145),#[.tmp 8],#[25]⟩,41,"body.go:19",#[⟨3,.data⟩,⟨2,.chain⟩],none⟩ rfl (by kernel_rfl) (by kernel_rfl) fun Kc hK=> ?_
   go_simp
   refine (zwq E b t _ NN.out (HB0.out.trans (hHeld.1.mono HB0.out.size)) HKK.out).mono ?_
   rintro e w6 ⟨pv,rfl,hpo,hb⟩
   obtain ⟨PA,pc,rfl,-⟩:=zv3 hpo
   have OP:=hid hpo
   have hsz:=hHeld.1.size
   have hne:(Value.slice PA (zzp t).length pc).ownBlock≠some sbk:=fun e=>by have h1:=(OP.out.lt _ e).1;have h2:=SX.out.lt;omega
   have SX:=hid (SX.out.below hb)
   have OP:=hid (zjj OP.out hsz)
   have hHeld:(fun w'=>Below wa.heap.size wa w'∧w'.cell? ⟨w.heap.size,0,none⟩=some (.slice E.sA E.x.structs.length E.sc)∧w'.cell? ⟨w.heap.size,1,none⟩=some (.slice E.gA E.x.globals.length E.gc)∧w'.cell? ⟨w.heap.size,2,none⟩=some (.slice E.fA E.x.funs.length E.fc)∧w'.cell? ⟨w.heap.size+1,0,none⟩=some (.pointer (some ⟨b,0,none⟩))) _:=⟨hHeld.1.trans (hb.mono hHeld.1.size),zza hHeld.1 hHeld.2.1 il hb,zza hHeld.1 hHeld.2.2.1 il hb,zza hHeld.1 hHeld.2.2.2.1 il hb,zza hHeld.1 hHeld.2.2.2.2 ul hb⟩
   refine hK.out _ _ (fun _ _=>hHeld) ?_
   clear hK Kc
   try simp only [Act.put,List.setIfInBounds_toArray,List.set_cons_zero,List.set_cons_succ]
   clear hb hpo hsz
   refine twX 5 ⟨some 10,.build 179 #[(0,.tmp 5),(1,.tmp 7),(2,.tmp 9)],179,"body.go:19",#[⟨0,.data⟩,⟨2,.data⟩,⟨4,.data⟩],none⟩ (v:= ?vb6) hq rfl (by kernel_rfl) ?yb6 ?_
   case yb6=>intro w;go_simp<;>with_reducible rfl
   try simp only [Act.put,List.setIfInBounds_toArray,List.set_cons_zero,List.set_cons_succ]
   refine clX 7 ⟨none,.store 179 (.tmp 4) (.tmp 10),0,"body.go:19",#[⟨6,.data⟩,⟨5,.data⟩,⟨4,.chain⟩,⟨0,.phase⟩,⟨1,.phase⟩,⟨2,.phase⟩,⟨3,.phase⟩,⟨4,.phase⟩,⟨5,.phase⟩,⟨6,.phase⟩],none⟩ rfl (by kernel_rfl) (by kernel_rfl) fun Kc hK=> ?_
   have z0:=SX.out.c 0 (by decide)
   have z1:=SX.out.c 1 (by decide)
   have z2:=SX.out.c 2 (by decide)
   have z3:=SX.out.c 3 (by decide)
   have z4:=SX.out.c 4 (by decide)
   have z5:=SX.out.c 5 (by decide)
   obtain ⟨y0,z0⟩:=z0
   obtain ⟨y1,z1⟩:=z1
   obtain ⟨y2,z2⟩:=z2
   obtain ⟨y3,z3⟩:=z3
   obtain ⟨y4,z4⟩:=z4
   obtain ⟨y5,z5⟩:=z5
   have g0:=SX.out.f 0
   have g1:=SX.out.f 1
   have g2:=SX.out.f 2
   have g3:=SX.out.f 3
   have g4:=SX.out.f 4
   have g5:=SX.out.f 5
   go_simp
   refine hK.out _ _ (fun h=>absurd h (by decide)) ?_
   clear hK Kc
   try simp only [Act.put,List.setIfInBounds_toArray,List.set_cons_zero,List.set_cons_succ]
   refine dnX (by kernel_rfl) ?_ _
   have HSC:=hid (sc_made (res:=tp t) IW.out (B0.out.trans (hHeld.1.mono B0.out.size)) (Nat.le_trans B0.out.size hsb0) SX.out (zjj OP.out B0.out.size) hne hK6)
   have hU:=(z1e w6 sbk (.slice E.sA E.x.structs.length E.sc) (.slice E.gA E.x.globals.length E.gc) (.slice E.fA E.x.funs.length E.fc) (.string (tp t)) (.slice PA (zzp t).length pc) (.int .i64 0)).cell_far ⟨w.heap.size+1,0,none⟩ (Nat.lt_of_lt_of_le ul hHeld.1.size) (fun e=>by have h9:w.heap.size+1=sbk:=Option.some.inj e;omega)
   have HU:=hid (hU.trans hHeld.2.2.2.2)
   clear hU z0 z1 z2 z3 z4 z5
   go_wp2_with fail
   go_meet
   case rel=>exact ⟨sbk,_,rfl,HSC.out,Nat.le_trans B0s hsb0,fun e=>(by have h1:=(OP.out.lt _ e).1;omega),HU.out⟩
 case rest=>
  obtain ⟨sb,v,rfl,hsc,hsb,hvn,uc⟩:=hcut
  have hvn:=hid hvn
  have HSC:=hid hsc
  have N1:Hid (Nd (cE E w (tp t) sb) nb d):=hN1.out.bl hB0.out
  have ulc:w.heap.size+1<wc.heap.size:=World.block_lt_of_cell? wc ⟨w.heap.size+1,0,none⟩ uc
  have KD:Hid (∀ w',Below w.heap.size w w'→Calls Tryz.prog 29 #[.agg #[.pointer (some ⟨b,0,none⟩)],.int .i64 ((t.kids.length:Int) - 1)] w' fun e w2=>e= .returned (.agg #[.pointer (some ⟨nb,0,none⟩)])∧Below w'.heap.size w' w2):=fun w' h=>by
   have:=KD0.out w' h
   rw [show ((t.kids.length - 1:Nat):Int)=(t.kids.length:Int) - 1 by omega] at this
   exact this
  have hwr:IntKind.i64.wrap ((t.kids.length:Int) - 1)=(t.kids.length:Int) - 1:=IntWalk.i64_in _ (by omega)
  have HRc:Hid (zxm (cE E w (tp t) sb).x (cE E w (tp t) sb).res d.kids (zzp t) 0=r):=HR
  clear hsc i0 i1 i2 u0
  go_wp2_with fail
  refine rgS (fun w'=>Below w.heap.size w w'∧w'.cell? ⟨w.heap.size+1,0,none⟩=some (.pointer (some ⟨b,0,none⟩))) (by kernel_rfl) (⟨HSC.out.B.drew,uc⟩) (fun _ a d v _ h=>And.intro ((zql a d v).symm.trans (And.left h)) (And.right h)) fun hHeld hq=> ?_
  refine tkS 0 ⟨some 11,.load 25 (.tmp 3),25,"body.go:20",#[],none⟩ (v:= ?v1_0) hq hHeld rfl (by kernel_rfl) ?y1_0 ?_
  case y1_0=>(intro w h;try dsimp only at h);go_simp<;>with_reducible rfl
  try simp only [Act.put,List.setIfInBounds_toArray,List.set_cons_zero,List.set_cons_succ]
  refine tkS 1 ⟨some 12,.load 25 (.tmp 3),25,"body.go:20",#[],none⟩ (v:= ?v1_1) hq hHeld rfl (by kernel_rfl) ?y1_1 ?_
  case y1_1=>(intro w h;try dsimp only at h);go_simp<;>with_reducible rfl
  try simp only [Act.put,List.setIfInBounds_toArray,List.set_cons_zero,List.set_cons_succ]
  refine clS 2 ⟨some 13,.call ⟨.value (.func 11),#[.tmp 12],#[25]⟩,3,"body.go:20",#[⟨1,.data⟩],none⟩ rfl (by kernel_rfl) (by kernel_rfl) fun Kc hK=> ?_
  go_simp
  refine (zk4 NN.out hB0.out _ (HSC.out.B.drew)).mono ?_
  rintro e w8 ⟨rfl,hb⟩
  have hh8:=hid ((Below.refl wc.heap.size wc).drew.trans (hb.mono (Below.refl wc.heap.size wc).drew.size))
  refine hK.out _ _ ⟨hHeld.1.trans (hb.mono hHeld.1.size),keepC2 hHeld.2 hb⟩ fun hHeld=> ?_
  clear hb
  clear hK Kc
  try simp only [Act.put,List.setIfInBounds_toArray,List.set_cons_zero,List.set_cons_succ]
  refine tkS 3 ⟨some 14,.binOp .sub 3 (.tmp 13) (.const (.int .i64 1)) 3,3,"body.go:20",#[⟨2,.data⟩],none⟩ (v:= ?v1_3) hq hHeld rfl (by kernel_rfl) ?y1_3 ?_
  case y1_3=>(intro w h;try dsimp only at h);go_simp<;>with_reducible rfl
  try simp only [Act.put,List.setIfInBounds_toArray,List.set_cons_zero,List.set_cons_succ]
  refine clS 4 ⟨some 15,.call ⟨.value (.func 29),#[.tmp 11,.tmp 14],#[25,3]⟩,25,"body.go:20",#[⟨0,.data⟩,⟨3,.data⟩,⟨2,.chain⟩],none⟩ rfl (by kernel_rfl) (by kernel_rfl) fun Kc hK=> ?_
  go_simp
  refine (KD.out _ hHeld.1).mono ?_
  rintro e w9 ⟨rfl,hb⟩
  have hh9:=hid (hh8.out.trans (hb.mono hh8.out.size))
  refine hK.out _ _ ⟨hHeld.1.trans (hb.mono hHeld.1.size),keepC2 hHeld.2 hb⟩ fun hHeld=> ?_
  clear hb
  clear hK Kc
  try simp only [Act.put,List.setIfInBounds_toArray,List.set_cons_zero,List.set_cons_succ]
  refine clS 5 ⟨some 16,.call ⟨.value (.func 154),#[.tmp 4,.tmp 15],#[179,25]⟩,0,"body.go:20",#[⟨4,.data⟩,⟨4,.chain⟩],none⟩ rfl (by kernel_rfl) (by kernel_rfl) fun Kc hK=> ?_
  go_simp
  refine (z03 (cE E w (tp t) sb) hx v (zzp t) 0 nb d w9 (HSC.out.below hh9.out) HKO.out N1.out hz (IH.out sb)).mono ?_
  rw [HRc.out]
  intro e w10 he
  cases r with
  |bad p er=>obtain ⟨rfl,hb⟩:=he;exact ⟨rfl,hb,rfl⟩
  |ok K2=>
  obtain ⟨v2,rfl,hs⟩:=he
  have HSS:=hid hs
  refine hK.out _ _ ⟨HSS.out.sc.B,(World.cell?_of_block (w:=w9) (HSS.out.sg.blk (w.heap.size+1) (Nat.lt_of_lt_of_le ulc hh9.out.size) (fun e=>by have h9:w.heap.size+1=sb:=e;omega) hvn.out)).trans hHeld.2⟩ fun hHeld=> ?_
  clear hs
  clear hK Kc
  try simp only [Act.put,List.setIfInBounds_toArray,List.set_cons_zero,List.set_cons_succ]
  refine wpAnyH_done (by kernel_rfl) ?_ _
  go_wp2_with fail
  refine bodyPost_end (v:= .tuple #[]) (by simp [results,Tryz.results110,go_sem]) rfl ?_
  exact ⟨hHeld.1,rfl⟩
theorem isT_ty {x:Inf} {a:ByteArray} (h:isT x.structs a=true):TyOk x a:=by
 intro s hs
 unfold isT at h
 simp only [Bool.or_eq_true,Bool.and_eq_true] at h
 rcases h with (h|h)|h
 ·obtain rfl:=eqB_iff.1 h;revert hs;rw [show zwg tInt=none by decide];intro hs;cases hs
 ·obtain rfl:=eqB_iff.1 h;revert hs;rw [show zwg zjo=none by decide];intro hs;cases hs
 ·unfold zwg at hs
  split at hs
  ·obtain rfl:=Option.some.inj hs
   exact Option.isSome_iff_exists.1 h.2
  ·cases hs
theorem each_ok {f:Tree→CR Unit} :∀ {l:List Tree} {u:Unit},zja f l= .ok u→∀ d∈l,f d= .ok ()
 | [],_,_,d,hd=>by cases hd
 |a::r,u,h,d,hd=>by
  unfold zja at h
  obtain ⟨x,h1,h2⟩:=zq2 h
  rcases List.mem_cons.1 hd with rfl|hd
  ·exact h1
  ·exact each_ok h2 d hd
theorem firC_ok {ks:List Tree} {g:Nat→Nat} {n:Nat} {u:Unit} (h:firC ks g n= .ok u):∀ j,j<n→g j=0:=by
 rw [firC_eq] at h
 cases hf:fir g n 0 with
 |mk i e=>
  rw [hf] at h
  cases e with
  |zero=>exact fun j hj=>fir_ok (by rw [hf]) j (Nat.zero_le _) hj
  |succ e=>cases h
theorem parts_ty {x:Inf} {d:Tree} (ho:d.op≠3) (h:zqp x.structs d= .ok ()):(∀ f∈zzp d,TyOk x f.typ)∧TyOk x (tp d):=by
 unfold zqp at h
 rw [if_neg ho] at h
 obtain ⟨u,h1,h2⟩:=zq2 h
 obtain ⟨h3,-⟩:=zwb h2
 refine ⟨fun f hf=> ?_,?_⟩
 ·unfold zzp at hf
  obtain ⟨p,hp,rfl⟩:=List.mem_map.1 hf
  obtain ⟨i,hi,rfl⟩:=List.mem_iff_getElem.1 hp
  rw [List.length_take] at hi
  have hz:=firC_ok h1 i (by omega)
  unfold z2y at hz
  rw [List.getElem_take]
  split at hz
  ·split at hz
   ·split at hz
    ·rename_i h5
     rw [tp_at (List.getElem?_eq_getElem (by omega))] at h5
     exact isT_ty h5
    ·cases hz
   ·cases hz
  ·cases hz
 ·simp only [Bool.or_eq_true] at h3
  rcases h3 with h3|h3
  ·rw [eqB_iff.1 h3];exact ty_none (by decide)
  ·exact isT_ty h3
theorem inf_mem (ks:List Tree):∀ x:Inf,(∀ s∈(ks.foldl addD x).structs,s∈x.structs∨∃ d∈ks,d.op=2∧s=⟨nm d,zzp d⟩)∧(∀ s∈(ks.foldl addD x).globals,s∈x.globals∨∃ d∈ks,d.op=3∧s=zwo d)∧(∀ s∈(ks.foldl addD x).funs,s∈x.funs∨∃ d∈ks,d.op=4∧s=⟨nm d,zzp d,tp d⟩):=by
 induction ks with
 |nil=>intro x;exact ⟨fun s h=> .inl h,fun s h=> .inl h,fun s h=> .inl h⟩
 |cons a r ih=>
  intro x
  have h:=ih (addD x a)
  simp only [List.foldl_cons]
  refine ⟨fun s hs=> ?_,fun s hs=> ?_,fun s hs=> ?_⟩
  ·rcases h.1 s hs with h1|⟨d,h1,h2⟩
   ·unfold addD at h1
    split at h1
    ·rcases List.mem_append.1 h1 with h1|h1
     ·exact .inl h1
     ·exact .inr ⟨a,by simp,by assumption,List.mem_singleton.1 h1⟩
    split at h1
    ·exact .inl h1
    split at h1
    ·exact .inl h1
    ·exact .inl h1
   ·exact .inr ⟨d,List.mem_cons_of_mem _ h1,h2⟩
  ·rcases h.2.1 s hs with h1|⟨d,h1,h2⟩
   ·unfold addD at h1
    split at h1
    ·exact .inl h1
    split at h1
    ·rcases List.mem_append.1 h1 with h1|h1
     ·exact .inl h1
     ·exact .inr ⟨a,by simp,by assumption,List.mem_singleton.1 h1⟩
    split at h1
    ·exact .inl h1
    ·exact .inl h1
   ·exact .inr ⟨d,List.mem_cons_of_mem _ h1,h2⟩
  ·rcases h.2.2 s hs with h1|⟨d,h1,h2⟩
   ·unfold addD at h1
    split at h1
    ·exact .inl h1
    split at h1
    ·exact .inl h1
    split at h1
    ·rcases List.mem_append.1 h1 with h1|h1
     ·exact .inl h1
     ·exact .inr ⟨a,by simp,by assumption,List.mem_singleton.1 h1⟩
    ·exact .inl h1
   ·exact .inr ⟨d,List.mem_cons_of_mem _ h1,h2⟩
theorem types_inf {ks:List Tree} {u:Unit} (h:zja (zqp (zxo ks).structs) ks= .ok u):z1o (zxo ks):=by
 have hd:=each_ok h
 obtain ⟨m1,m2,m3⟩:=inf_mem ks infZ
 refine ⟨fun s hs f hf=> ?_,fun f hf=> ?_,fun s hs=> ?_⟩
 ·rcases m1 s hs with h1|⟨d,h1,h2,rfl⟩
  ·cases h1
  ·exact (parts_ty (x:=zxo ks) (by omega) (hd d h1)).1 f hf
 ·rcases m2 f hf with h1|⟨d,h1,h2,rfl⟩
  ·cases h1
  ·have:=hd d h1
   unfold zqp at this
   rw [if_pos h2] at this
   exact isT_ty (zwb this).1
 ·rcases m3 s hs with h1|⟨d,h1,h2,rfl⟩
  ·cases h1
  ·exact (parts_ty (x:=zxo ks) (by omega) (hd d h1)).2
theorem types_ko {ks:List Tree} {u:Unit} (h:zja (zqp (zxo ks).structs) ks= .ok u) {d:Tree} (hd:d∈ks) (ho:d.op=4):KOk (zxo ks) (zzp d):=(parts_ty (x:=zxo ks) (by omega) (each_ok h d hd)).1
theorem each_drop {f:Tree→CR Unit} {l:List Tree} {k:Nat} {u:Tree} (h:l[k]? =some u):zja f (l.drop k)=(f u).bind fun _=>zja f (l.drop (k+1)):=by
 obtain ⟨h1,rfl⟩:=List.getElem?_eq_some_iff.1 h
 rw [List.drop_eq_getElem_cons h1,zja]
theorem each_end {f:Tree→CR Unit} {l:List Tree} {k:Nat} (h:l.length≤k):zja f (l.drop k)= .ok ():=by
 rw [List.drop_eq_nil_of_le h,zja]
theorem infV_new (E:CE) (w:World):(w.alloc (.cells #[.slice E.sA E.x.structs.length E.sc,.slice E.gA E.x.globals.length E.gc,.slice E.fA E.x.funs.length E.fc] 44)).cell? ⟨w.heap.size,0,none⟩=some (.slice E.sA E.x.structs.length E.sc)∧(w.alloc (.cells #[.slice E.sA E.x.structs.length E.sc,.slice E.gA E.x.globals.length E.gc,.slice E.fA E.x.funs.length E.fc] 44)).cell? ⟨w.heap.size,1,none⟩=some (.slice E.gA E.x.globals.length E.gc)∧(w.alloc (.cells #[.slice E.sA E.x.structs.length E.sc,.slice E.gA E.x.globals.length E.gc,.slice E.fA E.x.funs.length E.fc] 44)).cell? ⟨w.heap.size,2,none⟩=some (.slice E.fA E.x.funs.length E.fc):=⟨zxa w _ 44 0,zxa w _ 44 1,zxa w _ 44 2⟩
structure IX (E:CE) (w:World) (lo:Nat):Prop where
 good:Good w
 sl:E.x.structs.length≤100000
 gl:E.x.globals.length≤100000
 fl:E.x.funs.length≤100000
 d:∃ base vs us,lo≤base∧DR w base E.sV E.gV E.fV E.x vs us
theorem IX.im {E:CE} {w:World} {lo:Nat} (h:IX E w lo):IM E w:=by
 obtain ⟨base,vs,us,-,hD⟩:=h.d
 obtain ⟨sA',gA',fA',sc',gc',fc',e1,e2,e3,hS,hGl,hF,sle,gle,fle⟩:=hD.out
 unfold CE.sV at e1
 unfold CE.gV at e2
 unfold CE.fV at e3
 simp only [Value.slice.injEq] at e1 e2 e3
 obtain ⟨rfl,-,rfl⟩:=e1
 obtain ⟨rfl,-,rfl⟩:=e2
 obtain ⟨rfl,-,rfl⟩:=e3
 exact ⟨h.good,hS,hGl,hF,h.sl,h.gl,h.fl,sle,gle,fle⟩
theorem IX.below {E:CE} {w w':World} {lo:Nat} (h:IX E w lo) (hb:Below w.heap.size w w'):IX E w' lo:=by
 obtain ⟨base,vs,us,hl,hD⟩:=h.d
 exact ⟨h.good.below hb,h.sl,h.gl,h.fl,base,vs,us,hl,hD.below hb⟩
theorem IX.set {E:CE} {w:World} {lo y k:Nat} {v:Value} (h:IX E w lo) (hy:y<lo) (h8:8≤y):IX E (w.setCell ⟨y,k,none⟩ v) lo:=by
 obtain ⟨base,vs,us,hl,hD⟩:=h.d
 exact ⟨h.good.low (zwm (zxf w ⟨y,k,none⟩ v) (fun b e=>by have h9:y=b:=Option.some.inj e;omega) h.good.size),h.sl,h.gl,h.fl,base,vs,us,hl,hD.keep (zxf w ⟨y,k,none⟩ v) (fun b e=>by have h9:y=b:=Option.some.inj e;omega)⟩
theorem IX.lower {E:CE} {w:World} {lo lo':Nat} (h:IX E w lo) (hl:lo'≤lo):IX E w lo':=by
 obtain ⟨base,vs,us,h1,hD⟩:=h.d
 exact ⟨h.good,h.sl,h.gl,h.fl,base,vs,us,Nat.le_trans hl h1,hD⟩
def MQ (E:CE) (w:World) (e:Ending) (w':World):Prop:=Below w.heap.size w w'∧e=(if mainB E.x then .returned (.tuple #[]) else cfE 0 8)
def PQ (E:CE) (w:World) (r:CR Inf) (e:Ending) (w':World):Prop:=Below w.heap.size w w'∧(match r with
 | .ok x=>∃ E':CE,E'.x=x∧e= .returned (infV E')∧IX E' w' w.heap.size
 | .bad p er=>e=cfE (E.pl p) er)
def ORel (wb:World) (f:Tree→CR Unit) (t:Tree) (m:Nat) (r:CR Unit) (i:Value) (wr:World):Prop:=
 ∃ k:Nat,k≤m∧i= .int .i64 k∧Hid (zja f (t.kids.drop k)=r)∧Hid (Below wb.heap.size wb wr)
theorem fir_unit {r:CR Unit} {a:Unit} :(r= .ok a)=(r= .ok ()):=rfl
def cI (E:CE) (x:Inf) (sA gA fA:Option Addr) (sc gc fc:Nat):CE:= { E with x:=x,sA:=sA,gA:=gA,fA:=fA,sc:=sc,gc:=gc,fc:=fc }
theorem cmain_any (E:CE) (w:World) (I:IM E w):Calls Tryz.prog 111 #[infV E] w (MQ E w):=by
 have B0:=hid (b1 w (.cells #[.slice E.sA E.x.structs.length E.sc,.slice E.gA E.x.globals.length E.gc,.slice E.fA E.x.funs.length E.fc] 44))
 have I0:=hid (I.below (b1 w (.cells #[.slice E.sA E.x.structs.length E.sc,.slice E.gA E.x.globals.length E.gc,.slice E.fA E.x.funs.length E.fc] 44)))
 obtain ⟨i0,i1,i2⟩:=infV_new E w
 have il:w.heap.size<(w.alloc (.cells #[.slice E.sA E.x.structs.length E.sc,.slice E.gA E.x.globals.length E.gc,.slice E.fA E.x.funs.length E.fc] 44)).heap.size:=by simp
 obtain ⟨r,hr⟩:∃ r,funO E.x tMain=r:=⟨_,rfl⟩
 have HR:=hid hr
 have hfl:=I.fl
 have hfc:=I.fle
 unfold infV
 clear I hr
 go_enter Tryz.func111,Tryz.ntmps111
 go_wp2_with fail
 generalize w.alloc (.cells #[.slice E.sA E.x.structs.length E.sc,.slice E.gA E.x.globals.length E.gc,.slice E.fA E.x.funs.length E.fc] 44)=wa at*
 refine (zw9 E tMain r wa I0.out HR).mono ?_
 rintro e w1 ⟨rfl,hb⟩
 have i2:=zza (Below.refl _ _) i2 il hb
 have I1:=hid (I0.out.below hb)
 have B1:=hid (B0.out.trans (hb.mono B0.out.size))
 clear hb i0 i1
 cases r with
 |none=>
  unfold zqt
  have hm:mainB E.x=false:=by unfold mainB;rw [HR.out]
  go_wp2_with fail
  exact ⟨rfl,B1.out,by rw [hm];rfl⟩
 |some j=>
  unfold zqt
  have hjl:=fst_lt HR.out
  obtain ⟨fb,fo,hfa,hfb,PA,pc,g0,g1,g2,gc,gm,-⟩:=sg_at I1.out.F hjl
  have hm:Hid (mainB E.x=((E.x.funs.getD j sgZ).params.length==0&&eqB (E.x.funs.getD j sgZ).res zkx)):=by show _=_;unfold mainB;rw [HR.out]
  rw [hfa] at i2
  clear hfa
  generalize E.x.funs.getD j sgZ=G at*
  generalize E.x.funs.length=fm at*
  obtain ⟨n,hn⟩:∃ n,G.params.length=n:=⟨_,rfl⟩
  rw [hn] at g1 gc gm hm
  obtain ⟨q,hq⟩:∃ d,G.res.toList.isEmpty=d:=⟨_,rfl⟩
  have HQ:Hid (eqB G.res zkx=q):=eqB_nil hq
  by_cases h0:0<n
  ·have h0':(0:Int)<(n:Int):=by omega
   have hmf:mainB E.x=false:=by rw [hm.out,beq_eq_false_iff_ne.2 (by omega)];rfl
   go_wp2_with fail
   exact ⟨rfl,B1.out,by rw [hmf];rfl⟩
  ·obtain rfl:n=0:=by omega
   have hmf:Hid (mainB E.x=q):=by show _=_;rw [hm.out,HQ.out];rfl
   clear h0
   cases q with
   |false=>
    go_wp2_with fail
    exact ⟨rfl,B1.out,by rw [hmf.out];rfl⟩
   |true=>
    go_wp2_with fail
    refine bodyPost_end (v:= .tuple #[]) (by simp [results,Tryz.results111,go_sem]) rfl ?_
    exact ⟨B1.out,by rw [hmf.out];rfl⟩
theorem cprogram_any (E:CE) (b:Nat) (t:Tree) (w:World) (N:Nd E b t) (hB:Below E.w0.heap.size E.w0 w) (G:Good w) (W:Wt t) (hz:zxs t≤90000) (hroot:E.pl t.pos=0):
 Calls Tryz.prog 78 #[.agg #[.pointer (some ⟨b,0,none⟩)]] w (PQ E w (zqy t)):=by
 have hk4:Hid (∀ (k:Nat) (d:Tree),t.kids[k]? =some d→d.op=4→1≤d.kids.length):=fun k d hd ho=>by have:=(W.kid hd).least;rw [ho] at this;exact this
 have B0:=hid (b2 w (.cells #[.pointer (some ⟨b,0,none⟩)] 25) (.cells #[.slice none 0 0,.slice none 0 0,.slice none 0 0] 44))
 have HB:=hid hB
 have U0:=hid ((PtrAt.new w (some ⟨b,0,none⟩)).below (b1 _ (.cells #[.slice none 0 0,.slice none 0 0,.slice none 0 0] 44)))
 have r0:((w.alloc (.cells #[.pointer (some ⟨b,0,none⟩)] 25)).alloc (.cells #[.slice none 0 0,.slice none 0 0,.slice none 0 0] 44)).cell? ⟨w.heap.size+1,0,none⟩=some (.slice none 0 0):=zxh w _ _ _ _ 0
 have r1:((w.alloc (.cells #[.pointer (some ⟨b,0,none⟩)] 25)).alloc (.cells #[.slice none 0 0,.slice none 0 0,.slice none 0 0] 44)).cell? ⟨w.heap.size+1,1,none⟩=some (.slice none 0 0):=zxh w _ _ _ _ 1
 have r2:((w.alloc (.cells #[.pointer (some ⟨b,0,none⟩)] 25)).alloc (.cells #[.slice none 0 0,.slice none 0 0,.slice none 0 0] 44)).cell? ⟨w.heap.size+1,2,none⟩=some (.slice none 0 0):=zxh w _ _ _ _ 2
 have rl:w.heap.size+1<((w.alloc (.cells #[.pointer (some ⟨b,0,none⟩)] 25)).alloc (.cells #[.slice none 0 0,.slice none 0 0,.slice none 0 0] 44)).heap.size:=by simp
 have z0:∀ k,((w.alloc (.cells #[.pointer (some ⟨b,0,none⟩)] 25)).alloc (.cells #[.slice none 0 0,.slice none 0 0,.slice none 0 0] 44)).frozen? ⟨w.heap.size+1,k,none⟩=false:=by intro k;simp [go_sem]
 have NN:=hid N
 have HWT:=hid W
 have HG:=hid G
 obtain ⟨m,hm⟩:∃ m,t.kids.length=m:=⟨_,rfl⟩
 have HM:=hid hm
 have hm6:m≤6000:=by obtain ⟨-,-,-,-,h,-⟩:=N.kid;omega
 obtain ⟨X,hX⟩:∃ X,zxo t.kids=X:=⟨_,rfl⟩
 have HX:=hid hX
 obtain ⟨rn,hrn⟩:∃ r,firC t.kids (zwc t.kids) t.kids.length=r:=⟨_,rfl⟩
 obtain ⟨rt,hrt⟩:∃ r,zja (zqp X.structs) t.kids=r:=⟨_,rfl⟩
 obtain ⟨rb,hrb⟩:∃ r,zja (zvu X) t.kids=r:=⟨_,rfl⟩
 have HRN:=hid hrn
 have HRT:=hid hrt
 have HRB:=hid hrb
 have HC:Hid (zqy t=rn.bind fun _=>rt.bind fun _=>rb.bind fun _=>nd t.pos (mainB X) 8 (.ok X)):=by show _=_;unfold zqy;rw [hX,hrn,hrt,hrb]
 have hxl:=infOf_len t.kids t.kids.length (Nat.le_refl _)
 rw [List.take_length,hX,hm] at hxl
 obtain ⟨xl1,xl2,xl3⟩:=hxl
 clear N hm hX hrn hrt hrb W G
 go_enter Tryz.func78,Tryz.ntmps78
 have u0:=U0.out.c0
 go_wp2_with fail
 generalize (w.alloc (.cells #[.pointer (some ⟨b,0,none⟩)] 25)).alloc (.cells #[.slice none 0 0,.slice none 0 0,.slice none 0 0] 44)=wa at*
 have ul:=U0.out.lt
 have HBa:=hid (HB.out.trans (B0.out.mono HB.out.size))
 refine (cdeclared_any E b t wa NN.out HBa.out hk4.out).mono ?_
 rintro e w2 ⟨sv,gv,fv,vs,us,rfl,hD,hb⟩
 rw [HX.out] at hD
 obtain ⟨sA,gA,fA,sc,gc,fc,rfl,rfl,rfl,hS,hGl,hF,sle,gle,fle⟩:=hD.out
 have IM2:Hid (IM (cI E X sA gA fA sc gc fc) w2):=⟨HG.out.below (B0.out.trans (hb.mono B0.out.size)),hS,hGl,hF,by show X.structs.length≤_;omega,by show X.globals.length≤_;omega,by show X.funs.length≤_;omega,sle,gle,fle⟩
 have HD2:=hid hD
 have H2:=hid hb
 have u2:=zza (Below.refl _ _) u0 ul hb
 clear hD hS hGl hF hb sle gle fle
 have BV:=hid (b1 w2 (.cells #[.slice sA X.structs.length sc,.slice gA X.globals.length gc,.slice fA X.funs.length fc] 44))
 obtain ⟨s0,s1,s2⟩:=infV_new (cI E X sA gA fA sc gc fc) w2
 have vl:w2.heap.size<(w2.alloc (.cells #[.slice sA X.structs.length sc,.slice gA X.globals.length gc,.slice fA X.funs.length fc] 44)).heap.size:=by simp
 have s0:(w2.alloc (.cells #[.slice sA X.structs.length sc,.slice gA X.globals.length gc,.slice fA X.funs.length fc] 44)).cell? ⟨w2.heap.size,0,none⟩=some (.slice sA X.structs.length sc):=s0
 have s1:(w2.alloc (.cells #[.slice sA X.structs.length sc,.slice gA X.globals.length gc,.slice fA X.funs.length fc] 44)).cell? ⟨w2.heap.size,1,none⟩=some (.slice gA X.globals.length gc):=s1
 have s2:(w2.alloc (.cells #[.slice sA X.structs.length sc,.slice gA X.globals.length gc,.slice fA X.funs.length fc] 44)).cell? ⟨w2.heap.size,2,none⟩=some (.slice fA X.funs.length fc):=s2
 have u3:=zza H2.out u2 ul BV.out
 clear u2
 go_wp2_with fail
 generalize w2.alloc (.cells #[.slice sA X.structs.length sc,.slice gA X.globals.length gc,.slice fA X.funs.length fc] 44)=wb at*
 have H3:=hid (H2.out.trans (BV.out.mono H2.out.size))
 have IM3:=hid (IM2.out.below BV.out)
 have BWb:=hid (B0.out.trans (H3.out.mono B0.out.size))
 have BEb:=hid (HB.out.trans (BWb.out.mono HB.out.size))
 have ulb:=Nat.lt_of_lt_of_le ul H3.out.size
 clear IM2
 refine (cnames_any E b t wb NN.out BEb.out).mono ?_
 rw [HRN.out]
 rintro e w4 ⟨hb,he⟩
 cases rn with
 |bad p er=>obtain rfl:=he;exact ⟨rfl,BWb.out.trans (hb.mono BWb.out.size),by rw [HC.out];rfl⟩
 |ok a0=>
 obtain rfl:=he
 have u4:=zza (Below.refl _ _) u3 ulb hb
 have H4:=hid hb
 clear hb
 go_wp2_with fail
 refine (zk4 NN.out BEb.out _ H4.out).mono ?_
 rintro e w5 ⟨rfl,hb⟩
 have H5:=hid (H4.out.trans (hb.mono H4.out.size))
 rw [HM.out]
 clear hb u4
 go_wp2_with fail
 go_loopw [12] (fun i wr=>ORel wb (zqp X.structs) t m rt i wr) (fun i _=>m - (intOf i).toNat)
 case atStart=>exact ⟨0,Nat.zero_le _,rfl,HRT,H5⟩
 case round=>
  obtain ⟨k,hk,rfl,HK,HB7⟩:=hrel
  have BW:=hid (BWb.out.trans (HB7.out.mono BWb.out.size))
  have ur:=zza (Below.refl _ _) u3 ulb HB7.out
  have s0r:=zza (Below.refl _ _) s0 vl HB7.out
  have s1r:=zza (Below.refl _ _) s1 vl HB7.out
  have s2r:=zza (Below.refl _ _) s2 vl HB7.out
  have ulr:=Nat.lt_of_lt_of_le ulb HB7.out.size
  have vlr:=Nat.lt_of_lt_of_le vl HB7.out.size
  by_cases hlt:k<m
  ·obtain ⟨d,hu⟩:∃ u,t.kids[k]? =some u:=⟨_,List.getElem?_eq_getElem (by have:=HM.out;omega)⟩
   obtain ⟨nb,hn,hkd⟩:=zx8 NN.out HB.out k d hu
   have HU:=hid hu
   have N1:=hid hn
   have KD:=hid hkd
   have HK4:=hid (hk4.out k d hu)
   obtain ⟨q,hq⟩:∃ q,zqp X.structs d=q:=⟨_,rfl⟩
   have HQ:=hid hq
   have HRQ:Hid (rt=q.bind fun _=>zja (zqp X.structs) (t.kids.drop (k+1))):=by show _=_;rw [←HK.out,each_drop hu,hq]
   clear hu hn hkd hq
   go_wp2_with fail
   refine rgS (fun w'=>Below wr.heap.size wr w'∧w'.cell? ⟨w2.heap.size,0,none⟩=some (.slice sA X.structs.length sc)∧w'.cell? ⟨w.heap.size,0,none⟩=some (.pointer (some ⟨b,0,none⟩))) (by kernel_rfl) (⟨(Below.refl _ _).drew,s0r,ur⟩) (fun _ a d v _ h=>And.intro ((zql a d v).symm.trans (And.left h)) (And.right h)) fun hHeld hq=> ?_
   refine tkS 0 ⟨some 15,.fieldAddr 44 (.tmp 3) 0,0,"declare.go:14",#[],none⟩ (v:= ?v1_0) hq hHeld rfl (by kernel_rfl) ?y1_0 ?_
   case y1_0=>(intro w h;try dsimp only at h);go_simp<;>with_reducible rfl
   try simp only [Act.put,List.setIfInBounds_toArray,List.set_cons_zero,List.set_cons_succ]
   refine tkS 1 ⟨some 16,.load 40 (.tmp 15),40,"declare.go:14",#[⟨0,.data⟩],none⟩ (v:= ?v1_1) hq hHeld rfl (by kernel_rfl) ?y1_1 ?_
   case y1_1=>(intro w h;try dsimp only at h);go_simp<;>with_reducible rfl
   try simp only [Act.put,List.setIfInBounds_toArray,List.set_cons_zero,List.set_cons_succ]
   refine tkS 2 ⟨some 17,.load 25 (.tmp 1),25,"declare.go:14",#[],none⟩ (v:= ?v1_2) hq hHeld rfl (by kernel_rfl) ?y1_2 ?_
   case y1_2=>(intro w h;try dsimp only at h);go_simp<;>with_reducible rfl
   try simp only [Act.put,List.setIfInBounds_toArray,List.set_cons_zero,List.set_cons_succ]
   refine tkS 3 ⟨some 18,.move (.tmp 4),3,"declare.go:14",#[],none⟩ (v:= ?v1_3) hq hHeld rfl (by kernel_rfl) ?y1_3 ?_
   case y1_3=>(intro w h;try dsimp only at h);go_simp<;>with_reducible rfl
   try simp only [Act.put,List.setIfInBounds_toArray,List.set_cons_zero,List.set_cons_succ]
   refine clS 4 ⟨some 19,.call ⟨.value (.func 29),#[.tmp 17,.tmp 18],#[25,3]⟩,25,"declare.go:14",#[⟨2,.data⟩,⟨3,.data⟩],none⟩ rfl (by kernel_rfl) (by kernel_rfl) fun Kc hK=> ?_
   go_simp
   refine (KD.out _ (BW.out.trans (hHeld.1.mono BW.out.size))).mono ?_
   rintro e w1 ⟨rfl,hb⟩
   refine hK.out _ _ ⟨hHeld.1.trans (hb.mono hHeld.1.size),zza hHeld.1 hHeld.2.1 vlr hb,zza hHeld.1 hHeld.2.2 ulr hb⟩ fun hHeld=> ?_
   clear hb
   clear hK Kc
   try simp only [Act.put,List.setIfInBounds_toArray,List.set_cons_zero,List.set_cons_succ]
   refine clS 5 ⟨some 20,.call ⟨.value (.func 109),#[.tmp 16,.tmp 19],#[40,25]⟩,0,"declare.go:14",#[⟨1,.data⟩,⟨4,.data⟩,⟨4,.chain⟩],none⟩ rfl (by kernel_rfl) (by kernel_rfl) fun Kc hK=> ?_
   go_simp
   refine (ctypes_any E nb d _ N1.out (HB.out.trans ((BW.out.trans (hHeld.1.mono BW.out.size)).mono HB.out.size)) X.structs sA sc (((IM3.out.below HB7.out).below hHeld.1).S) (by omega) HK4.out).mono ?_
   rw [HQ.out]
   rintro e w1 ⟨hb,he⟩
   cases q with
   |bad p er=>obtain rfl:=he;exact ⟨rfl,onB BW.out hHeld.1 hb,by rw [HC.out,HRQ.out];rfl⟩
   |ok a1=>
   obtain rfl:=he
   refine hK.out _ _ ⟨hHeld.1.trans (hb.mono hHeld.1.size),zza hHeld.1 hHeld.2.1 vlr hb,zza hHeld.1 hHeld.2.2 ulr hb⟩ fun hHeld=> ?_
   clear hb
   clear hK Kc
   try simp only [Act.put,List.setIfInBounds_toArray,List.set_cons_zero,List.set_cons_succ]
   refine wpAnyH_done (by kernel_rfl) ?_ _
   have hh:=hid (HB7.out.trans (hHeld.1.mono HB7.out.size))
   clear hHeld
   go_wp2_with fail
   go_roundw
   case rel=>exact ⟨k+1,by omega,by go_num,HRQ.out.symm,hh⟩
   case measure=>simp [intOf];omega
  ·have HTK:Hid (rt= .ok ()):=by show _=_;rw [←HK.out,each_end (by have:=HM.out;omega)]
   have HOK:Hid (z1o X):=by
    have h:=HRT.out
    rw [HTK.out,←HX.out] at h
    show z1o X
    rw [←HX.out]
    exact types_inf h
   have HKO:Hid (∀ d∈t.kids,d.op=4→KOk X (zzp d)):=fun d hd ho=>by
    have h:=HRT.out
    rw [HTK.out,←HX.out] at h
    rw [←HX.out]
    exact types_ko h hd ho
   go_wp2_with fail
   refine (zk4 NN.out HB.out _ BW.out).mono ?_
   rintro e w6 ⟨rfl,hb⟩
   have H6:=hid (HB7.out.trans (hb.mono HB7.out.size))
   rw [HM.out]
   clear hb s0r s1r s2r ur ulr vlr BW HB7 HK hk hlt
   go_wp2_with fail
   go_loopw [24] (fun i wr=>ORel wb (zvu X) t m rb i wr) (fun i _=>m - (intOf i).toNat)
   case atStart=>exact ⟨0,Nat.zero_le _,rfl,HRB,H6⟩
   case round=>
    obtain ⟨k,hk,rfl,HK,HB7⟩:=hrel
    have BW:=hid (BWb.out.trans (HB7.out.mono BWb.out.size))
    have ur:=zza (Below.refl _ _) u3 ulb HB7.out
    have s0r:=zza (Below.refl _ _) s0 vl HB7.out
    have s1r:=zza (Below.refl _ _) s1 vl HB7.out
    have s2r:=zza (Below.refl _ _) s2 vl HB7.out
    have ulr:=Nat.lt_of_lt_of_le ulb HB7.out.size
    have vlr:=Nat.lt_of_lt_of_le vl HB7.out.size
    by_cases hlt:k<m
    ·obtain ⟨d,hu⟩:∃ u,t.kids[k]? =some u:=⟨_,List.getElem?_eq_getElem (by have:=HM.out;omega)⟩
     obtain ⟨nb,hn,hkd⟩:=zx8 NN.out HB.out k d hu
     have HU:=hid hu
     have N1:=hid hn
     have KD:=hid hkd
     obtain ⟨q,hq⟩:∃ q,zvu X d=q:=⟨_,rfl⟩
     have HQ:=hid hq
     have HRQ:Hid (rb=q.bind fun _=>zja (zvu X) (t.kids.drop (k+1))):=by show _=_;rw [←HK.out,each_drop hu,hq]
     clear hu hn hkd hq
     go_wp2_with fail
     refine (KD.out _ BW.out).mono ?_
     rintro e w7 ⟨rfl,hb⟩
     have hh:=hid hb
     clear hb
     go_wp2_with fail
     refine (zqf N1.out HB.out _ (BW.out.trans (hh.out.mono BW.out.size))).mono ?_
     rintro e w8 ⟨rfl,hb⟩
     have hh:=hid (hh.out.trans (hb.mono hh.out.size))
     clear hb
     have s0r:=zza (Below.refl _ _) s0r vlr hh.out
     have s1r:=zza (Below.refl _ _) s1r vlr hh.out
     have s2r:=zza (Below.refl _ _) s2r vlr hh.out
     have ur:=zza (Below.refl _ _) ur ulr hh.out
     by_cases ho:d.op=4
     ·rw [ho]
      obtain ⟨lk,hlk⟩:=zx4 (t:=d) (i:=d.kids.length - 1) (by have:=hk4.out k d HU.out ho;omega)
      have hzd:(zzp d).length+zxz lk.kids≤100000:=by
       have h1:=z1g d
       have h2:=cntP_le d
       have h3:d.kids.length≤6000:=by obtain ⟨-,-,-,-,h,-⟩:=N1.out.kid;omega
       have h4:=zk0 hlk
       have h5:=zk0 HU.out
       have h6:=zkl lk
       omega
      have HBD:Hid (q=(zxm X (tp d) lk.kids (zzp d) 0).bind fun _=> .ok ()):=by
       show _=_
       rw [←HQ.out];unfold zvu;rw [if_pos ho,tp_at hlk]
      have HWL:Hid (∀ u∈lk.kids,Wt u):=fun u hu=>by
       obtain ⟨i,hi,rfl⟩:=List.mem_iff_getElem.1 hu
       exact ((HWT.out.kid HU.out).kid hlk).kid (List.getElem?_eq_getElem hi)
      have HLK:=hid hlk
      have HKd:=hid (HKO.out d (List.mem_of_getElem? HU.out) ho)
      have HK4:=hid (hk4.out k d HU.out)
      clear hlk
      go_wp2_with fail
      refine rgS (fun w'=>Below wr.heap.size wr w'∧w'.cell? ⟨w2.heap.size,0,none⟩=some (.slice sA X.structs.length sc)∧w'.cell? ⟨w2.heap.size,1,none⟩=some (.slice gA X.globals.length gc)∧w'.cell? ⟨w2.heap.size,2,none⟩=some (.slice fA X.funs.length fc)∧w'.cell? ⟨w.heap.size,0,none⟩=some (.pointer (some ⟨b,0,none⟩))) (by kernel_rfl) (⟨hh.out.drew,s0r,s1r,s2r,ur⟩) (fun _ a d v _ h=>And.intro ((zql a d v).symm.trans (And.left h)) (And.right h)) fun hHeld hq=> ?_
      refine tkS 0 ⟨some 32,.load 44 (.tmp 3),44,"declare.go:18",#[],none⟩ (v:= ?v2_0) hq hHeld rfl (by kernel_rfl) ?y2_0 ?_
      case y2_0=>(intro w h;try dsimp only at h);go_simp<;>with_reducible rfl
      try simp only [Act.put,List.setIfInBounds_toArray,List.set_cons_zero,List.set_cons_succ]
      refine tkS 1 ⟨some 33,.load 25 (.tmp 1),25,"declare.go:18",#[],none⟩ (v:= ?v2_1) hq hHeld rfl (by kernel_rfl) ?y2_1 ?_
      case y2_1=>(intro w h;try dsimp only at h);go_simp<;>with_reducible rfl
      try simp only [Act.put,List.setIfInBounds_toArray,List.set_cons_zero,List.set_cons_succ]
      refine tkS 2 ⟨some 34,.move (.tmp 5),3,"declare.go:18",#[],none⟩ (v:= ?v2_2) hq hHeld rfl (by kernel_rfl) ?y2_2 ?_
      case y2_2=>(intro w h;try dsimp only at h);go_simp<;>with_reducible rfl
      try simp only [Act.put,List.setIfInBounds_toArray,List.set_cons_zero,List.set_cons_succ]
      refine clS 3 ⟨some 35,.call ⟨.value (.func 29),#[.tmp 33,.tmp 34],#[25,3]⟩,25,"declare.go:18",#[⟨1,.data⟩,⟨2,.data⟩],none⟩ rfl (by kernel_rfl) (by kernel_rfl) fun Kc hK=> ?_
      go_simp
      refine (KD.out _ (BW.out.trans (hHeld.1.mono BW.out.size))).mono ?_
      rintro e w1 ⟨rfl,hb⟩
      refine hK.out _ _ ⟨hHeld.1.trans (hb.mono hHeld.1.size),zza hHeld.1 hHeld.2.1 vlr hb,zza hHeld.1 hHeld.2.2.1 vlr hb,zza hHeld.1 hHeld.2.2.2.1 vlr hb,zza hHeld.1 hHeld.2.2.2.2 ulr hb⟩ fun hHeld=> ?_
      clear hb
      clear hK Kc
      try simp only [Act.put,List.setIfInBounds_toArray,List.set_cons_zero,List.set_cons_succ]
      refine clS 4 ⟨some 36,.call ⟨.value (.func 110),#[.tmp 32,.tmp 35],#[44,25]⟩,0,"declare.go:18",#[⟨0,.data⟩,⟨3,.data⟩,⟨3,.chain⟩],none⟩ rfl (by kernel_rfl) (by kernel_rfl) fun Kc hK=> ?_
      go_simp
      refine (cbody_any (cI E X sA gA fA sc gc fc) nb d _ N1.out (HB.out.trans ((BW.out.trans (hHeld.1.mono BW.out.size)).mono HB.out.size)) ((IM3.out.below HB7.out).below hHeld.1) HOK lk HLK.out HK4.out HKd.out hzd HWL.out).mono ?_
      intro e w1 hq0
      obtain ⟨hb,he⟩:UQ E _ q e w1:=by rw [HBD.out];exact hq0
      cases q with
      |bad p er=>obtain rfl:=he;exact ⟨rfl,onB BW.out hHeld.1 hb,by rw [HC.out,HTK.out,HRQ.out];rfl⟩
      |ok a1=>
      obtain rfl:=he
      refine hK.out _ _ ⟨hHeld.1.trans (hb.mono hHeld.1.size),zza hHeld.1 hHeld.2.1 vlr hb,zza hHeld.1 hHeld.2.2.1 vlr hb,zza hHeld.1 hHeld.2.2.2.1 vlr hb,zza hHeld.1 hHeld.2.2.2.2 ulr hb⟩ fun hHeld=> ?_
      clear hb hq0
      clear hK Kc
      try simp only [Act.put,List.setIfInBounds_toArray,List.set_cons_zero,List.set_cons_succ]
      refine wpAnyH_done (by kernel_rfl) ?_ _
      have hh:=hid (HB7.out.trans (hHeld.1.mono HB7.out.size))
      clear hHeld
      go_wp2_with fail
      go_roundw
      case rel=>exact ⟨k+1,by omega,by go_num,HRQ.out.symm,hh⟩
      case measure=>simp [intOf];omega
     ·have f4:((d.op:Int)==4)=false:=by rw [beq_eq_false_iff_ne];omega
      obtain rfl:q= .ok ():=by rw [←HQ.out];unfold zvu;rw [if_neg ho]
      have hh:=hid (HB7.out.trans (hh.out.mono HB7.out.size))
      go_wp2_with fail
      go_roundw
      case rel=>exact ⟨k+1,by omega,by go_num,HRQ.out.symm,hh⟩
      case measure=>simp [intOf];omega
    ·have HBK:Hid (rb= .ok ()):=by show _=_;rw [←HK.out,each_end (by have:=HM.out;omega)]
     have HC9:Hid (zqy t=nd t.pos (mainB X) 8 (.ok X)):=by show _=_;rw [HC.out,HTK.out,HBK.out];rfl
     go_wp2_with fail
     refine (cmain_any (cI E X sA gA fA sc gc fc) _ (IM3.out.below HB7.out)).mono ?_
     rintro e w9 ⟨hb,he⟩
     have he:e=(if mainB X then .returned (.tuple #[]) else cfE 0 8):=he
     cases hmb:mainB X with
     |false=>
      rw [hmb] at he
      obtain rfl:=he
      exact ⟨rfl,onB BWb.out HB7.out hb,by rw [HC9.out,hmb];show cfE 0 8=cfE (E.pl t.pos) _;rw [hroot];rfl⟩
     |true=>
      rw [hmb] at he
      obtain rfl:=he
      have s0r:=zza HB7.out s0r vl hb
      have s1r:=zza HB7.out s1r vl hb
      have s2r:=zza HB7.out s2r vl hb
      have b9:=H3.out.trans ((HB7.out.trans (hb.mono HB7.out.size)).mono H3.out.size)
      have r0:=zza (Below.refl _ _) r0 rl b9
      have r1:=zza (Below.refl _ _) r1 rl b9
      have r2:=zza (Below.refl _ _) r2 rl b9
      have q0:=(b9.frozen (p:=⟨w.heap.size+1,0,none⟩) rl).trans (z0 0)
      have q1:=(b9.frozen (p:=⟨w.heap.size+1,1,none⟩) rl).trans (z0 1)
      have q2:=(b9.frozen (p:=⟨w.heap.size+1,2,none⟩) rl).trans (z0 2)
      have HD9:=hid (((HD2.out.below BV.out).below HB7.out).below hb)
      have BF:Hid (Below w.heap.size w (((w9.setCell ⟨w.heap.size+1,0,none⟩ (.slice sA X.structs.length sc)).setCell ⟨w.heap.size+1,1,none⟩ (.slice gA X.globals.length gc)).setCell ⟨w.heap.size+1,2,none⟩ (.slice fA X.funs.length fc))):=(((onB BWb.out HB7.out hb).setCell (p:=⟨w.heap.size+1,0,none⟩) (Nat.le_succ _) _).setCell (p:=⟨w.heap.size+1,1,none⟩) (Nat.le_succ _) _).setCell (p:=⟨w.heap.size+1,2,none⟩) (Nat.le_succ _) _
      clear b9 hb
      go_wp2_with fail
      refine bodyPost_ret (v:= .agg #[.slice sA X.structs.length sc,.slice gA X.globals.length gc,.slice fA X.funs.length fc]) (by simp [results,Tryz.results78,go_sem,r0,r1,r2]) rfl ?_
      refine ⟨BF.out,?_⟩
      rw [HC9.out,hmb]
      have low:∀ y,some (w.heap.size+1)=some y→y<wa.heap.size+3:=fun y e=>by have:=Option.some.inj e;omega
      have hDf:=(((HD9.out.keep (zxf w9 ⟨w.heap.size+1,0,none⟩ (.slice sA X.structs.length sc)) low).keep (zxf _ ⟨w.heap.size+1,1,none⟩ (.slice gA X.globals.length gc)) low).keep (zxf _ ⟨w.heap.size+1,2,none⟩ (.slice fA X.funs.length fc)) low)
      exact ⟨cI E X sA gA fA sc gc fc,rfl,rfl,⟨HG.out.below BF.out,by show X.structs.length≤_;omega,by show X.globals.length≤_;omega,by show X.funs.length≤_;omega,wa.heap.size+3,vs,us,by omega,hDf⟩⟩
theorem catch_idle (a b c:Addr) (w:World):
 CallsD Tryz.prog 32 #[.pointer (some a),.pointer (some b),.pointer (some c)] .returning w fun e u' w'=>e= .returned (.tuple #[])∧u'= .returning∧w'=w:=by
 refine callsD_of_wpS Tryz.func32 rfl fun c₀ cs hu=> ?_
 apply wpS_seq
 apply wpS_region
 simp [wpOpsS,go_sem,recoverD,hu,Tryz.ntmps32,Exit.thenS]
 refine wpS_of_wp ?_
 go_wp2_with fail
 cases c₀
 simp_all [bodyPostS,results,Tryz.results32]
def CatchW (b:Nat) (p er:Int) (w w':World):Prop:=Below b w w'∧w'.cell? ⟨b,0,none⟩=some (.pointer none)∧w'.cell? ⟨b+1,0,none⟩=some (.int .i64 p)∧w'.cell? ⟨b+2,0,none⟩=some (.int .i64 er)
theorem assert51:∀ (p er:Int) (w:World),(Instr.typeAssert (.iface 67 (.agg #[.int .i64 p,.int .i64 er])) 20 67 true).run Tryz.prog w= .ok (.tuple #[.agg #[.int .i64 p,.int .i64 er],.bool true]) w:=fun _ _ _=>by kernel_rfl
theorem catch_fault (b:Nat) (p er:Int) (x:Option Addr) (y z:Int) (older:List PanicEntry) (w:World) (c0:w.cell? ⟨b,0,none⟩=some (.pointer x)) (c1:w.cell? ⟨b+1,0,none⟩=some (.int .i64 y)) (c2:w.cell? ⟨b+2,0,none⟩=some (.int .i64 z)) (f0:w.frozen? ⟨b,0,none⟩=false) (f1:w.frozen? ⟨b+1,0,none⟩=false) (f2:w.frozen? ⟨b+2,0,none⟩=false) (hl:b+2<w.heap.size):
 CallsD Tryz.prog 32 #[.pointer (some ⟨b,0,none⟩),.pointer (some ⟨b+1,0,none⟩),.pointer (some ⟨b+2,0,none⟩)] (.panicking ({ v:= .iface 67 (.agg #[.int .i64 p,.int .i64 er]),recovered:=false } ::older)) w fun e u' w'=>
  e= .returned (.tuple #[])∧u'= .panicking ({ v:= .iface 67 (.agg #[.int .i64 p,.int .i64 er]),recovered:=true } ::older)∧CatchW b p er w w':=by
 have hta:=assert51
 have hb0:b<w.heap.size:=by omega
 have hb1:b+1<w.heap.size:=by omega
 refine callsD_of_wpS Tryz.func32 rfl fun c₀ cs hu=> ?_
 apply wpS_seq
 apply wpS_region
 simp [wpOpsS,go_sem,recoverD,hu,Tryz.ntmps32,Exit.thenS]
 refine wpS_of_wp ?_
 change Code.wp _ _ _ { tmps:=#[.pointer (some ⟨b,0,none⟩),.pointer (some ⟨b+1,0,none⟩),.pointer (some ⟨b+2,0,none⟩),undef,undef,undef,.iface 67 (.agg #[.int .i64 p,.int .i64 er]),undef,undef,undef,undef,undef,undef,undef,undef,undef,undef],defers:= [] } _
 go_wp2_with fail
 go_region
 all_goals go_wp2_with fail
 have hfin:CatchW b p er w (((((w.setCell ⟨b,0,none⟩ (.pointer none)).setCell ⟨b+1,0,none⟩ (.int .i64 p)).setCell ⟨b+2,0,none⟩ (.int .i64 er)).alloc (.cells #[.int .i64 p,.int .i64 er] 67)).drew):=by
  refine ⟨((((((Below.refl b w).setCell (p:=⟨b,0,none⟩) (Nat.le_refl _) _).setCell (p:=⟨b+1,0,none⟩) (Nat.le_succ _) _).setCell (p:=⟨b+2,0,none⟩) (by show b≤b+2;omega) _).alloc (by simp;omega) _).drew),?_,?_,?_⟩
  ·simp [go_sem,hb0,c0]
  ·simp [go_sem,hb1,c1]
  ·simp [go_sem,hl,c2]
 generalize ((((w.setCell ⟨b,0,none⟩ (.pointer none)).setCell ⟨b+1,0,none⟩ (.int .i64 p)).setCell ⟨b+2,0,none⟩ (.int .i64 er)).alloc (.cells #[.int .i64 p,.int .i64 er] 67)).drew=wz at*
 simp [bodyPostS,results,Tryz.results32,go_sem,hfin]
theorem ccatch_idle (a b c:Addr) (w:World):
 CallsD Tryz.prog 77 #[.pointer (some a),.pointer (some b),.pointer (some c)] .returning w fun e u' w'=>e= .returned (.tuple #[])∧u'= .returning∧w'=w:=by
 refine callsD_of_wpS Tryz.func77 rfl fun c₀ cs hu=> ?_
 apply wpS_seq
 apply wpS_region
 simp [wpOpsS,go_sem,recoverD,hu,Tryz.ntmps77,Exit.thenS]
 refine wpS_of_wp ?_
 go_wp2_with fail
 cases c₀
 simp_all [bodyPostS,results,Tryz.results77]
structure CatchI (b:Nat) (p er:Int) (w w':World):Prop where
 B:Below b w w'
 i0:w'.cell? ⟨b,0,none⟩=some (.slice none 0 0)
 i1:w'.cell? ⟨b,1,none⟩=some (.slice none 0 0)
 i2:w'.cell? ⟨b,2,none⟩=some (.slice none 0 0)
 a:w'.cell? ⟨b+1,0,none⟩=some (.int .i64 p)
 e:w'.cell? ⟨b+2,0,none⟩=some (.int .i64 er)
structure CV (b:Nat) (w:World):Prop where
 i0:w.cell? ⟨b,0,none⟩=some (.slice none 0 0)
 i1:w.cell? ⟨b,1,none⟩=some (.slice none 0 0)
 i2:w.cell? ⟨b,2,none⟩=some (.slice none 0 0)
 a:w.cell? ⟨b+1,0,none⟩=some (.int .i64 0)
 e:w.cell? ⟨b+2,0,none⟩=some (.int .i64 0)
 f:∀ j k,j<3→w.frozen? ⟨b+j,k,none⟩=false
 lt:b+2<w.heap.size
theorem CV.below {b:Nat} {w w':World} (h:CV b w) (hb:Below w.heap.size w w'):CV b w':=by
 have hl:=h.lt
 have c:∀ j k,j<3→w'.cell? ⟨b+j,k,none⟩=w.cell? ⟨b+j,k,none⟩:=fun j k hj=>hb.cell (p:=⟨b+j,k,none⟩) (by show b+j<_;omega)
 exact ⟨(c 0 0 (by decide)).trans h.i0,(c 0 1 (by decide)).trans h.i1,(c 0 2 (by decide)).trans h.i2,(c 1 0 (by decide)).trans h.a,(c 2 0 (by decide)).trans h.e,fun j k hj=>(hb.frozen (p:=⟨b+j,k,none⟩) (by show b+j<_;omega)).trans (h.f j k hj),Nat.lt_of_lt_of_le hl hb.size⟩
theorem assert133:∀ (p er:Int) (w:World),(Instr.typeAssert (.iface 133 (.agg #[.int .i64 p,.int .i64 er])) 20 133 true).run Tryz.prog w= .ok (.tuple #[.agg #[.int .i64 p,.int .i64 er],.bool true]) w:=fun _ _ _=>by kernel_rfl
theorem ccatch_fault (b:Nat) (p er:Int) (older:List PanicEntry) (w:World) (V:CV b w):
 CallsD Tryz.prog 77 #[.pointer (some ⟨b,0,none⟩),.pointer (some ⟨b+1,0,none⟩),.pointer (some ⟨b+2,0,none⟩)] (.panicking ({ v:= .iface 133 (.agg #[.int .i64 p,.int .i64 er]),recovered:=false } ::older)) w fun e u' w'=>
  e= .returned (.tuple #[])∧u'= .panicking ({ v:= .iface 133 (.agg #[.int .i64 p,.int .i64 er]),recovered:=true } ::older)∧CatchI b p er w w':=by
 have hta:=assert133
 obtain ⟨c0,c1,c2,ca,ce,f,hl⟩:=V
 have f0:w.frozen? ⟨b,0,none⟩=false:=f 0 0 (by decide)
 have f1:w.frozen? ⟨b,1,none⟩=false:=f 0 1 (by decide)
 have f2:w.frozen? ⟨b,2,none⟩=false:=f 0 2 (by decide)
 have fa:w.frozen? ⟨b+1,0,none⟩=false:=f 1 0 (by decide)
 have fe:w.frozen? ⟨b+2,0,none⟩=false:=f 2 0 (by decide)
 have hb0:b<w.heap.size:=by omega
 have hb1:b+1<w.heap.size:=by omega
 clear f
 refine callsD_of_wpS Tryz.func77 rfl fun c₀ cs hu=> ?_
 apply wpS_seq
 apply wpS_region
 simp [wpOpsS,go_sem,recoverD,hu,Tryz.ntmps77,Exit.thenS]
 refine wpS_of_wp ?_
 change Code.wp _ _ _ { tmps:=#[.pointer (some ⟨b,0,none⟩),.pointer (some ⟨b+1,0,none⟩),.pointer (some ⟨b+2,0,none⟩),undef,undef,undef,.iface 133 (.agg #[.int .i64 p,.int .i64 er]),undef,undef,undef,undef,undef,undef,undef,undef,undef,undef],defers:= [] } _
 go_wp2_with fail
 go_region
 all_goals go_wp2_with fail
 have hfin:CatchI b p er w (((((((w.setCell ⟨b,0,none⟩ (.slice none 0 0)).setCell ⟨b,1,none⟩ (.slice none 0 0)).setCell ⟨b,2,none⟩ (.slice none 0 0)).setCell ⟨b+1,0,none⟩ (.int .i64 p)).setCell ⟨b+2,0,none⟩ (.int .i64 er)).alloc (.cells #[.int .i64 p,.int .i64 er] 133)).drew):=by
  refine ⟨(((((((Below.refl b w).setCell (p:=⟨b,0,none⟩) (Nat.le_refl _) _).setCell (p:=⟨b,1,none⟩) (Nat.le_refl _) _).setCell (p:=⟨b,2,none⟩) (Nat.le_refl _) _).setCell (p:=⟨b+1,0,none⟩) (Nat.le_succ _) _).setCell (p:=⟨b+2,0,none⟩) (by show b≤b+2;omega) _).alloc (by simp;omega) _).drew,?_,?_,?_,?_,?_⟩
  ·simp [go_sem,hb0,c0]
  ·simp [go_sem,hb0,c1]
  ·simp [go_sem,hb0,c2]
  ·simp [go_sem,hb1,ca]
  ·simp [go_sem,hl,ce]
 generalize ((((((w.setCell ⟨b,0,none⟩ (.slice none 0 0)).setCell ⟨b,1,none⟩ (.slice none 0 0)).setCell ⟨b,2,none⟩ (.slice none 0 0)).setCell ⟨b+1,0,none⟩ (.int .i64 p)).setCell ⟨b+2,0,none⟩ (.int .i64 er)).alloc (.cells #[.int .i64 p,.int .i64 er] 133)).drew=wz at*
 simp [bodyPostS,results,Tryz.results77,go_sem,hfin]
def CQ (E:CE) (w:World) (r:CR Inf) (e:Ending) (w':World):Prop:=Below w.heap.size w w'∧(match r with
 | .ok x=>∃ E':CE,E'.x=x∧e= .returned (.tuple #[infV E',.int .i64 0,.int .i64 0])∧IX E' w' w.heap.size
 | .bad p er=>e= .returned (.tuple #[.agg #[.slice none 0 0,.slice none 0 0,.slice none 0 0],.int .i64 (E.pl p),.int .i64 er]))
theorem cv_start (w:World) (x:Option Addr):CV (w.heap.size+1) ((((w.alloc (.cells #[.pointer x] 25)).alloc (.cells #[.slice none 0 0,.slice none 0 0,.slice none 0 0] 44)).alloc (.cells #[.int .i64 0] 3)).alloc (.cells #[.int .i64 0] 26)):=by
 refine ⟨?_,?_,?_,?_,?_,?_,by simp⟩
 ·simp [go_sem]
 ·simp [go_sem]
 ·simp [go_sem]
 ·simp [go_sem]
 ·simp [go_sem]
 ·intro j k hj
  match j,hj with
  |0,_=>simp [go_sem]
  |1,_=>simp [go_sem]
  |2,_=>simp [go_sem]
theorem four_below (w:World) (a b c d:Obj):Below w.heap.size w ((((w.alloc a).alloc b).alloc c).alloc d):=((b2 w a b).trans ((b1 _ c).mono (by simp;omega))).trans ((b1 _ d).mono (by simp;omega))
theorem ccheck_any (E:CE) (b:Nat) (t:Tree) (w:World) (N:Nd E b t) (hB:Below E.w0.heap.size E.w0 w) (G:Good w) (W:Wt t) (hz:zxs t≤90000) (hroot:E.pl t.pos=0) (ho:t.op=1):
 Calls Tryz.prog 46 #[.agg #[.pointer (some ⟨b,0,none⟩)]] w (CQ E w (zqy t)):=by
 have hmf:∀ (fn:Fn) (first cap:Array Value) (w:World),(Instr.makeFunc fn first cap).run Tryz.prog w= .ok (.func fn first cap) w:=fun _ _ _ _=>rfl
 have B0:=hid (four_below w (.cells #[.pointer (some ⟨b,0,none⟩)] 25) (.cells #[.slice none 0 0,.slice none 0 0,.slice none 0 0] 44) (.cells #[.int .i64 0] 3) (.cells #[.int .i64 0] 26))
 have V0:=hid (cv_start w (some ⟨b,0,none⟩))
 have u0:((((w.alloc (.cells #[.pointer (some ⟨b,0,none⟩)] 25)).alloc (.cells #[.slice none 0 0,.slice none 0 0,.slice none 0 0] 44)).alloc (.cells #[.int .i64 0] 3)).alloc (.cells #[.int .i64 0] 26)).cell? ⟨w.heap.size,0,none⟩=some (.pointer (some ⟨b,0,none⟩)):=by simp [go_sem]
 have ul:w.heap.size<((((w.alloc (.cells #[.pointer (some ⟨b,0,none⟩)] 25)).alloc (.cells #[.slice none 0 0,.slice none 0 0,.slice none 0 0] 44)).alloc (.cells #[.int .i64 0] 3)).alloc (.cells #[.int .i64 0] 26)).heap.size:=by simp;omega
 have HBE:=hid hB
 have NN:=hid N
 have HG:=hid G
 have HW:=hid W
 obtain ⟨r,hr⟩:∃ r,zqy t=r:=⟨_,rfl⟩
 have HR:=hid hr
 rw [hr]
 clear N G W hr
 go_enter_defers Tryz.func46,Tryz.ntmps46
 go_wp2_with fail
 generalize (((w.alloc (.cells #[.pointer (some ⟨b,0,none⟩)] 25)).alloc (.cells #[.slice none 0 0,.slice none 0 0,.slice none 0 0] 44)).alloc (.cells #[.int .i64 0] 3)).alloc (.cells #[.int .i64 0] 26)=wa at*
 refine (zqf NN.out HBE.out _ B0.out).mono ?_
 rintro e w1 ⟨rfl,hb⟩
 have u1:=zza (Below.refl _ _) u0 ul hb
 have V1:=hid (V0.out.below hb)
 have B1:=hid (B0.out.trans (hb.mono B0.out.size))
 rw [ho]
 clear hb u0
 go_wp2_with fail
 refine (cprogram_any E b t w1 NN.out (HBE.out.trans (B1.out.mono HBE.out.size)) (HG.out.below B1.out) HW.out hz hroot).mono ?_
 rw [HR.out]
 rintro e w2 ⟨hb,he⟩
 have V2:=V1.out.below hb
 have B2:=hid (B1.out.trans (hb.mono B1.out.size))
 cases r with
 |bad p er=>
  obtain rfl:=he
  have HCf:=hid (ccatch_fault (w.heap.size+1) (E.pl p) er [] w2 V2)
  have hq:Hid (∀ w3,CatchI (w.heap.size+1) (E.pl p) er w2 w3→CQ E w (.bad p er) (.returned (.tuple #[.agg #[.slice none 0 0,.slice none 0 0,.slice none 0 0],.int .i64 (E.pl p),.int .i64 er])) w3):=fun w3 hc=>⟨B2.out.trans (hc.B.mono (Nat.le_succ _)),rfl⟩
  clear V2 hb u1
  unfold cfE
  refine leaves_cons (f:=77) (args:=#[.pointer (some ⟨w.heap.size+1,0,none⟩),.pointer (some ⟨w.heap.size+1+1,0,none⟩),.pointer (some ⟨w.heap.size+1+2,0,none⟩)]) (by simp) (by simp [go_sem]) ?_
  refine HCf.out.mono ?_
  rintro e u' w3 ⟨rfl,rfl,hc⟩
  have hf:=hq.out w3 hc
  obtain ⟨-,k0,k1,k2,k3,k4⟩:=hc
  simp [Leaves,settle,results,Tryz.results46,go_sem,k0,k1,k2,k3,k4]
  exact hf
 |ok x=>
  obtain ⟨E',hx,rfl,hI⟩:=he
  have h8:=HG.out.size
  have hsz:w.heap.size+3<w1.heap.size:=by have:=V1.out.lt;omega
  have HF:Hid (CQ E w (.ok x) (.returned (.tuple #[infV E',.int .i64 0,.int .i64 0])) (((((w2.setCell ⟨w.heap.size+1,0,none⟩ (.slice E'.sA E'.x.structs.length E'.sc)).setCell ⟨w.heap.size+1,1,none⟩ (.slice E'.gA E'.x.globals.length E'.gc)).setCell ⟨w.heap.size+1,2,none⟩ (.slice E'.fA E'.x.funs.length E'.fc)).setCell ⟨w.heap.size+1+1,0,none⟩ (.int .i64 0)).setCell ⟨w.heap.size+1+1+1,0,none⟩ (.int .i64 0))):=⟨((((B2.out.setCell (p:=⟨w.heap.size+1,0,none⟩) (Nat.le_succ _) _).setCell (p:=⟨w.heap.size+1,1,none⟩) (Nat.le_succ _) _).setCell (p:=⟨w.heap.size+1,2,none⟩) (Nat.le_succ _) _).setCell (p:=⟨w.heap.size+1+1,0,none⟩) (by show w.heap.size≤w.heap.size+1+1;omega) _).setCell (p:=⟨w.heap.size+1+1+1,0,none⟩) (by show w.heap.size≤w.heap.size+1+1+1;omega) _,E',hx,rfl,(((((hI.set (by omega) (by omega)).set (by omega) (by omega)).set (by omega) (by omega)).set (by omega) (by omega)).set (by omega) (by omega)).lower (by omega)⟩
  obtain ⟨k0,k1,k2,k3,k4,kf,kl⟩:=V2
  have q0:w2.frozen? ⟨w.heap.size+1,0,none⟩=false:=kf 0 0 (by decide)
  have q1:w2.frozen? ⟨w.heap.size+1,1,none⟩=false:=kf 0 1 (by decide)
  have q2:w2.frozen? ⟨w.heap.size+1,2,none⟩=false:=kf 0 2 (by decide)
  have q3:w2.frozen? ⟨w.heap.size+1+1,0,none⟩=false:=kf 1 0 (by decide)
  have q4:w2.frozen? ⟨w.heap.size+1+1+1,0,none⟩=false:=kf 2 0 (by decide)
  have k4:w2.cell? ⟨w.heap.size+1+1+1,0,none⟩=some (.int .i64 0):=k4
  unfold infV at HF ⊢
  clear kf hI hb u1 hx
  go_wp2_with fail
  refine leaves_cons (f:=77) (args:=#[.pointer (some ⟨w.heap.size+1,0,none⟩),.pointer (some ⟨w.heap.size+1+1,0,none⟩),.pointer (some ⟨w.heap.size+1+1+1,0,none⟩)]) (by simp) (by simp [go_sem]) ?_
  refine (ccatch_idle _ _ _ _).mono ?_
  rintro e u' w4 ⟨rfl,rfl,rfl⟩
  have hfi:=HF.out
  simp [Leaves,settle,results,Tryz.results46,go_sem,k0,k1,k2,k3,k4]
  exact hfi
theorem ccheck_zero (w:World):
 Calls Tryz.prog 46 #[.agg #[.pointer none]] w fun e w'=>e= .returned (.tuple #[.agg #[.slice none 0 0,.slice none 0 0,.slice none 0 0],.int .i64 0,.int .i64 1])∧Below w.heap.size w w':=by
 have hmf:∀ (fn:Fn) (first cap:Array Value) (w:World),(Instr.makeFunc fn first cap).run Tryz.prog w= .ok (.func fn first cap) w:=fun _ _ _ _=>rfl
 have B0:=hid (four_below w (.cells #[.pointer none] 25) (.cells #[.slice none 0 0,.slice none 0 0,.slice none 0 0] 44) (.cells #[.int .i64 0] 3) (.cells #[.int .i64 0] 26))
 have V0:=hid (cv_start w none)
 go_enter_defers Tryz.func46,Tryz.ntmps46
 go_wp2_with fail
 generalize (((w.alloc (.cells #[.pointer none] 25)).alloc (.cells #[.slice none 0 0,.slice none 0 0,.slice none 0 0] 44)).alloc (.cells #[.int .i64 0] 3)).alloc (.cells #[.int .i64 0] 26)=wa at*
 refine (zkq wa none 0 ⟨#[]⟩ ⟨#[]⟩ 0 0 none 0 0 (.inr ⟨rfl,rfl,rfl,rfl,rfl,rfl,rfl,rfl,rfl⟩)).mono ?_
 rintro e w1 ⟨rfl,hb⟩
 have V1:=V0.out.below hb
 have B1:=hid (B0.out.trans (hb.mono B0.out.size))
 have HF:Hid (Below w.heap.size w (((((w1.setCell ⟨w.heap.size+1,0,none⟩ (.slice none 0 0)).setCell ⟨w.heap.size+1,1,none⟩ (.slice none 0 0)).setCell ⟨w.heap.size+1,2,none⟩ (.slice none 0 0)).setCell ⟨w.heap.size+1+1,0,none⟩ (.int .i64 0)).setCell ⟨w.heap.size+1+1+1,0,none⟩ (.int .i64 1))):=((((B1.out.setCell (p:=⟨w.heap.size+1,0,none⟩) (Nat.le_succ _) _).setCell (p:=⟨w.heap.size+1,1,none⟩) (Nat.le_succ _) _).setCell (p:=⟨w.heap.size+1,2,none⟩) (Nat.le_succ _) _).setCell (p:=⟨w.heap.size+1+1,0,none⟩) (by show w.heap.size≤w.heap.size+1+1;omega) _).setCell (p:=⟨w.heap.size+1+1+1,0,none⟩) (by show w.heap.size≤w.heap.size+1+1+1;omega) _
 obtain ⟨k0,k1,k2,k3,k4,kf,kl⟩:=V1
 have q0:w1.frozen? ⟨w.heap.size+1,0,none⟩=false:=kf 0 0 (by decide)
 have q1:w1.frozen? ⟨w.heap.size+1,1,none⟩=false:=kf 0 1 (by decide)
 have q2:w1.frozen? ⟨w.heap.size+1,2,none⟩=false:=kf 0 2 (by decide)
 have q3:w1.frozen? ⟨w.heap.size+1+1,0,none⟩=false:=kf 1 0 (by decide)
 have q4:w1.frozen? ⟨w.heap.size+1+1+1,0,none⟩=false:=kf 2 0 (by decide)
 have k4:w1.cell? ⟨w.heap.size+1+1+1,0,none⟩=some (.int .i64 0):=k4
 clear kf hb
 go_wp2_with fail
 refine leaves_cons (f:=77) (args:=#[.pointer (some ⟨w.heap.size+1,0,none⟩),.pointer (some ⟨w.heap.size+1+1,0,none⟩),.pointer (some ⟨w.heap.size+1+1+1,0,none⟩)]) (by simp) (by simp [go_sem]) ?_
 refine (ccatch_idle _ _ _ _).mono ?_
 rintro e u' w4 ⟨rfl,rfl,rfl⟩
 have hfi:=HF.out
 simp [Leaves,settle,results,Tryz.results46,go_sem,k0,k1,k2,k3,k4]
 exact hfi
inductive PR
 |ok (ts:List Tok) (ks:List Tree)
 |bad (p e:Nat)
def z0f (ts:List Tok):Nat:=4*ts.length+1
def treeR (ts:List Tok) (n:Nat) (r:Option (Res (List Tree))):PR:=match r with
 |some (.ok ks _)=> .ok ts ks
 |some (.bad j e)=> .bad (plf ts n j) e
 |none=> .bad 0 0
def zxt (l:List UInt8):PR:=match zjp l with
 | .bad p e=> .bad p e
 | .ok ts=>treeR ts l.length (P (Tf ts) (z0f ts) .decls 0 0)
def root (ts:List Tok) (ks:List Tree):Tree:= .mk 1 [] [] 0 (ts.length+1) ks
def z3k (l:List UInt8) (r:PR) (w:World) (e:Ending) (w':World):Prop:=Below w.heap.size w w'∧(match r with
 | .ok ts ks=>∃ b,e= .returned (.tuple #[zzd b,.int .i64 0,.int .i64 0])∧NodeAt (fun x=>w.heap.size≤x) (plf ts l.length) w' b (root ts ks)
 | .bad p er=>e= .returned (.tuple #[.agg #[.pointer none],.int .i64 p,.int .i64 er]))
def envOf (rb lb cap:Nat) (ts:List Tok) (n:Nat):Env:=⟨rb,lb,cap,ts.length,Tf ts,plf ts n⟩
theorem cellsT_at (ts:List Tok):∀ (k:Nat) (t:Tok),ts[k]? =some t→(zj6 ts)[k*3]? =some (.int .i64 t.kind)∧(zj6 ts)[k*3+1]? =some (.string ⟨t.text.toArray⟩)∧(zj6 ts)[k*3+2]? =some (.int .i64 t.place):=by
 induction ts with
 |nil=>intro k t h;simp at h
 |cons a r ih=>
  intro k t h
  cases k with
  |zero=>obtain rfl:=Option.some.inj h;exact ⟨rfl,rfl,rfl⟩
  |succ k=>
   have:=ih k t h
   have e:zj6 (a::r)= [.int .i64 a.kind,.string ⟨a.text.toArray⟩,.int .i64 a.place]++zj6 r:=rfl
   rw [e]
   refine ⟨?_,?_,?_⟩
   ·rw [List.getElem?_append_right (by simp;omega),show (k+1)*3 - [Value.int .i64 a.kind,.string ⟨a.text.toArray⟩,.int .i64 a.place].length=k*3 by simp;omega];exact this.1
   ·rw [List.getElem?_append_right (by simp;omega),show (k+1)*3+1 - [Value.int .i64 a.kind,.string ⟨a.text.toArray⟩,.int .i64 a.place].length=k*3+1 by simp;omega];exact this.2.1
   ·rw [List.getElem?_append_right (by simp;omega),show (k+1)*3+2 - [Value.int .i64 a.kind,.string ⟨a.text.toArray⟩,.int .i64 a.place].length=k*3+2 by simp;omega];exact this.2.2
theorem rd_of {w:World} {base g cap:Nat} {l:List UInt8} {ts:List Tok} (hT:TokS l ts) (G:Good w) (hcap:ts.length+1≤cap) (hg:g<w.heap.size) (hown:w.ownsRow base 108 3 (.slice (some ⟨g,0,none⟩) (ts.length+1) cap) (ts.length+1) (zj6 (ts++ [⟨0,[],l.length⟩]))):
 RD (envOf w.heap.size g cap ts l.length) (w.alloc (.cells #[.slice (some ⟨g,0,none⟩) (ts.length+1) cap,.int .i64 0,.int .i64 0] 71)) 0 0:=by
 have hcell:∀ k,k<(ts.length+1)*3→(w.alloc (.cells #[.slice (some ⟨g,0,none⟩) (ts.length+1) cap,.int .i64 0,.int .i64 0] 71)).cell? ⟨g,k,none⟩=(zj6 (ts++ [⟨0,[],l.length⟩]))[k]? :=fun k hk=>by
  rw [World.cell?_alloc_lt w _ ⟨g,k,none⟩ hg];exact hown.cellAt k hk
 have hat:∀ k,k≤ts.length→∃ t,(ts++ [(⟨0,[],l.length⟩:Tok)])[k]? =some t∧Tf ts k=⟨t.kind,t.text⟩∧plf ts l.length k=t.place:=by
  intro k hk
  rcases Nat.lt_or_ge k ts.length with h|h
  ·exact ⟨ts[k],by rw [List.getElem?_append_left h,List.getElem?_eq_getElem h],Tf_at (List.getElem?_eq_getElem h),plf_at (List.getElem?_eq_getElem h)⟩
  ·have e:k=ts.length:=by omega
   subst e
   refine ⟨⟨0,[],l.length⟩,by simp,Tf_end (Nat.le_refl _),?_⟩
   unfold plf
   rw [List.getElem?_eq_none (Nat.le_refl _)]
   simp
 refine { sent:=hT.sent,ne:= ?_,cap:=hcap,zle:= ?_,text:=hT.text,ple:= ?_,lt:=by simp [envOf],llt:=by simp [envOf];omega,c0:= ?_,c1:= ?_,c2:= ?_,fr:= ?_,k0:= ?_,k1:= ?_,k2:= ?_,ile:=Nat.zero_le _,dle:=Nat.zero_le _,good:=G.alloc _,rb8:=G.size,nums:=hT.nums }
 ·show g≠w.heap.size;omega
 ·show ts.length≤5000;have:=hT.len;have:=hT.le;omega
 ·intro k;show plf ts l.length k≤5000;have:=hT.ple k;have:=hT.le;omega
 ·simp [envOf,go_sem]
 ·simp [envOf,go_sem]
 ·simp [envOf,go_sem]
 ·intro k;simp [envOf,go_sem]
 ·intro k hk
  obtain ⟨t,h1,h2,h3⟩:=hat k hk
  show _=some (Value.int .i64 (Tf ts k).kind)
  rw [h2]
  exact (hcell (k*3) (by have:k≤ts.length:=hk;omega)).trans (cellsT_at _ k t h1).1
 ·intro k hk
  obtain ⟨t,h1,h2,h3⟩:=hat k hk
  show _=some (Value.string ⟨(Tf ts k).text.toArray⟩)
  rw [h2]
  exact (hcell (k*3+1) (by have:k≤ts.length:=hk;omega)).trans (cellsT_at _ k t h1).2.1
 ·intro k hk
  obtain ⟨t,h1,h2,h3⟩:=hat k hk
  show _=some (Value.int .i64 (plf ts l.length k))
  rw [h3]
  exact (hcell (k*3+2) (by have:k≤ts.length:=hk;omega)).trans (cellsT_at _ k t h1).2.2
def w3s (w:World):World:=((w.alloc (.cells #[.pointer none] 25)).alloc (.cells #[.int .i64 0] 3)).alloc (.cells #[.int .i64 0] 26)
theorem w3s_below (w:World):Below w.heap.size w (w3s w):=b3 w _ _ _
theorem w3s_size (w:World):(w3s w).heap.size=w.heap.size+3:=by simp [w3s]
structure Vars (w:World) (b:Nat) (x:Option Addr) (y z:Int):Prop where
 c0:w.cell? ⟨b,0,none⟩=some (.pointer x)
 c1:w.cell? ⟨b+1,0,none⟩=some (.int .i64 y)
 c2:w.cell? ⟨b+2,0,none⟩=some (.int .i64 z)
 f0:w.frozen? ⟨b,0,none⟩=false
 f1:w.frozen? ⟨b+1,0,none⟩=false
 f2:w.frozen? ⟨b+2,0,none⟩=false
 lt:b+2<w.heap.size
theorem w3s_vars (w:World):Vars (w3s w) w.heap.size none 0 0:=by
 refine ⟨?_,?_,?_,?_,?_,?_,by rw [w3s_size];omega⟩<;>simp [w3s,go_sem]
theorem Vars.kept {w w':World} {b rb:Nat} {x:Option Addr} {y z:Int} (h:Vars w b x y z) (hg:w.grownBy w' (some rb)) (h0:b+2<rb):Vars w' b x y z:=
 ⟨(far hg (by have:=h.lt;omega) (by omega) _).trans h.c0,(far hg (by have:=h.lt;omega) (by omega) _).trans h.c1,(far hg h.lt (by omega) _).trans h.c2,(farF hg (by have:=h.lt;omega) (by omega) _).trans h.f0,(farF hg (by have:=h.lt;omega) (by omega) _).trans h.f1,(farF hg h.lt (by omega) _).trans h.f2,Nat.lt_of_lt_of_le h.lt hg.size⟩
theorem Vars.below {w w':World} {b:Nat} {x:Option Addr} {y z:Int} (h:Vars w b x y z) (hb:Below w.heap.size w w'):Vars w' b x y z:=h.kept (rb:=b+3) (zqe hb) (by omega)
theorem zvh (s:ByteArray) (r:PR) (w:World) (G:Good w) (hs:s.size≤281474976710656) (hr:Hid (zxt s.data.toList=r)):Calls Tryz.prog 8 #[.string s] w (z3k s.data.toList r w):=by
 have hmf:∀ (fn:Fn) (first cap:Array Value) (w:World),(Instr.makeFunc fn first cap).run Tryz.prog w= .ok (.func fn first cap) w:=fun _ _ _ _=>rfl
 have G3:=hid (G.below (w3s_below w))
 have B3:=hid (w3s_below w)
 have V3:=hid (w3s_vars w)
 unfold w3s at G3 B3 V3
 cases hsc:zjp s.data.toList with
 |bad p er=>
  have HR:Hid (PR.bad p er=r):=by
   have:=hr.out;unfold zxt at this;rw [hsc] at this;exact this
  have:=HR.out
  subst this
  have HSC:=hid hsc
  clear hsc hr HR G
  go_enter_defers Tryz.func8,Tryz.ntmps8
  go_wp2_with fail
  generalize ((w.alloc (.cells #[.pointer none] 25)).alloc (.cells #[.int .i64 0] 3)).alloc (.cells #[.int .i64 0] 26)=wa at*
  refine (pscan_any s (.bad p er) _ G3.out hs HSC).mono ?_
  rintro e w1 ⟨hb1,rfl⟩
  have V1:=V3.out.below hb1
  have B1:=hid (B3.out.trans (hb1.mono B3.out.size))
  have hq:Hid (∀ w2,CatchW w.heap.size p er w1 w2→z3k s.data.toList (.bad p er) w (.returned (.tuple #[.agg #[.pointer none],.int .i64 p,.int .i64 er])) w2):=fun w2 hc=>⟨B1.out.trans hc.1,rfl⟩
  have HC:=hid (catch_fault w.heap.size p er none 0 0 [] w1 V1.c0 V1.c1 V1.c2 V1.f0 V1.f1 V1.f2 V1.lt)
  clear V1 hb1 HSC
  unfold faultE
  refine leaves_cons (f:=32) (args:=#[.pointer (some ⟨w.heap.size,0,none⟩),.pointer (some ⟨w.heap.size+1,0,none⟩),.pointer (some ⟨w.heap.size+2,0,none⟩)]) (by simp) (by simp [go_sem]) ?_
  refine HC.out.mono ?_
  rintro e u' w2 ⟨rfl,rfl,hc⟩
  have hf:=hq.out w2 hc
  obtain ⟨hb2,k0,k1,k2⟩:=hc
  simp [Leaves,settle,results,Tryz.results8,go_sem,k0,k1,k2,hf]
 |ok ts=>
  have hT:=zv8 hsc
  have HR:Hid (treeR ts s.data.toList.length (P (Tf ts) (z0f ts) .decls 0 0)=r):=by
   have:=hr.out;unfold zxt at this;rw [hsc] at this;exact this
  obtain ⟨rr,hp,-⟩:=z2i hT.sent (z0f ts) .decls 0 0 trivial (Nat.zero_le _) (by show 4*(ts.length - 0)+0<4*ts.length+1;omega)
  rw [hp] at HR
  have HSC:=hid hsc
  have HP:=hid hp
  have HT:=hid hT
  have HL:Hid (s.size=s.data.toList.length):=(zzg s).symm
  clear hsc hr G hp hT
  go_enter_defers Tryz.func8,Tryz.ntmps8
  go_wp2_with fail
  generalize ((w.alloc (.cells #[.pointer none] 25)).alloc (.cells #[.int .i64 0] 3)).alloc (.cells #[.int .i64 0] 26)=wa at*
  refine (pscan_any s (.ok ts) _ G3.out hs HSC).mono ?_
  rintro e w1 ⟨hb1,g,cap,rfl,hcap,hg1,hg2,hown⟩
  have V1:=V3.out.below hb1
  have G1:=G3.out.below hb1
  have B1:=B3.out.trans (hb1.mono B3.out.size)
  rw [HL.out] at hown
  have hl1:=V1.lt
  have HRD:=hid (rd_of HT.out G1 hcap hg2 hown)
  have V2:=hid (V1.below (b1 w1 (.cells #[.slice (some ⟨g,0,none⟩) (ts.length+1) cap,.int .i64 0,.int .i64 0] 71)))
  have B2:=hid (B1.trans ((b1 w1 (.cells #[.slice (some ⟨g,0,none⟩) (ts.length+1) cap,.int .i64 0,.int .i64 0] 71)).mono B1.size))
  have hl2:w1.heap.size<(w1.alloc (.cells #[.slice (some ⟨g,0,none⟩) (ts.length+1) cap,.int .i64 0,.int .i64 0] 71)).heap.size:=by simp
  clear V1 G1 B1 hb1 hown
  go_wp2_with fail
  generalize w1.alloc (.cells #[.slice (some ⟨g,0,none⟩) (ts.length+1) cap,.int .i64 0,.int .i64 0] 71)=w2 at*
  have hroot:(envOf w1.heap.size g cap ts s.data.toList.length).pl ((envOf w1.heap.size g cap ts s.data.toList.length).z+1)=0:=by
   show plf ts s.data.toList.length (ts.length+1)=0
   unfold plf
   rw [List.getElem?_eq_none (by omega)]
   simp
  have HC:=hid (program_any (envOf w1.heap.size g cap ts s.data.toList.length) w2 (z0f ts) (all_any _ _) rr HRD.out hroot HP)
  clear hroot
  refine HC.out.mono ?_
  clear HC
  cases rr with
  |bad j er=>
   have:=HR.out
   subst this
   rintro e w3 ⟨rfl,hg3⟩
   have V3':=V2.out.kept hg3 (show w.heap.size+2<w1.heap.size from hl1)
   have B3':Below w.heap.size w w3:=⟨hg3.os.trans B2.out.os,hg3.tape.trans B2.out.tape,hg3.output.trans B2.out.output,Nat.le_trans B2.out.size hg3.size,fun k hk=>(hg3.block k (by omega) (fun e=>by have h9:k=w1.heap.size:=Option.some.inj e;omega)).trans (B2.out.block k hk)⟩
   have hq:Hid (∀ w4,CatchW w.heap.size (plf ts s.data.toList.length j) er w3 w4→z3k s.data.toList (treeR ts s.data.toList.length (some (.bad j er))) w (.returned (.tuple #[.agg #[.pointer none],.int .i64 (plf ts s.data.toList.length j),.int .i64 er])) w4):=fun w4 hc=>⟨B3'.trans hc.1,rfl⟩
   have HC:=hid (catch_fault w.heap.size (plf ts s.data.toList.length j) er none 0 0 [] w3 V3'.c0 V3'.c1 V3'.c2 V3'.f0 V3'.f1 V3'.f2 V3'.lt)
   clear V3' hg3 B3' HSC HP HR
   unfold faultE
   refine leaves_cons (f:=32) (args:=#[.pointer (some ⟨w.heap.size,0,none⟩),.pointer (some ⟨w.heap.size+1,0,none⟩),.pointer (some ⟨w.heap.size+2,0,none⟩)]) (by simp) (by simp [go_sem]) ?_
   refine HC.out.mono ?_
   rintro e u' w4 ⟨rfl,rfl,hc⟩
   have hf:=hq.out w4 hc
   obtain ⟨hb2,k0,k1,k2⟩:=hc
   simp [Leaves,settle,results,Tryz.results8,go_sem,k0,k1,k2]
   exact hf
  |ok ks j=>
   have:=HR.out
   subst this
   rintro e w3 ⟨v3,rfl,⟨nb,hv,hn⟩,hst⟩
   obtain rfl:=hv
   unfold zzd
   have hg3:=hst.2
   have V3':=V2.out.kept hg3 (show w.heap.size+2<w1.heap.size from hl1)
   have B3':Below w.heap.size w w3:=⟨hg3.os.trans B2.out.os,hg3.tape.trans B2.out.tape,hg3.output.trans B2.out.output,Nat.le_trans B2.out.size hg3.size,fun k hk=>(hg3.block k (by omega) (fun e=>by have h9:k=w1.heap.size:=Option.some.inj e;omega)).trans (B2.out.block k hk)⟩
   have HN:=hid hn
   have HB3:=hid B3'
   obtain ⟨c0,c1,c2,f0,f1,f2,lt⟩:=V3'
   clear hst hg3 hn B3' HSC HP HR
   go_wp2_with fail
   have hfin:Hid (z3k s.data.toList (treeR ts s.data.toList.length (some (.ok ks j))) w (.returned (.tuple #[.agg #[.pointer (some ⟨nb,0,none⟩)],.int .i64 0,.int .i64 0])) (((w3.setCell ⟨w.heap.size,0,none⟩ (.pointer (some ⟨nb,0,none⟩))).setCell ⟨w.heap.size+1,0,none⟩ (.int .i64 0)).setCell ⟨w.heap.size+2,0,none⟩ (.int .i64 0))):=by
    refine ⟨((HB3.out.setCell (p:=⟨w.heap.size,0,none⟩) (Nat.le_refl _) _).setCell (p:=⟨w.heap.size+1,0,none⟩) (Nat.le_succ _) _).setCell (p:=⟨w.heap.size+2,0,none⟩) (by show w.heap.size≤w.heap.size+2;omega) _,nb,rfl,?_⟩
    have hn2:NodeAt (fun x=>w.heap.size+2<x) (plf ts s.data.toList.length) w3 nb (root ts ks):=HN.out.weak fun x hx _=>by have h9:w2.heap.size≤x:=hx;omega
    exact (((hn2.kept (Keeps.set _ ⟨w.heap.size,0,none⟩ (.pointer (some ⟨nb,0,none⟩)) (fun h=>by have h9:w.heap.size+2<w.heap.size:=h;omega))).kept (Keeps.set _ ⟨w.heap.size+1,0,none⟩ (.int .i64 0) (fun h=>by have h9:w.heap.size+2<w.heap.size+1:=h;omega))).kept (Keeps.set _ ⟨w.heap.size+2,0,none⟩ (.int .i64 0) (fun h=>by have h9:w.heap.size+2<w.heap.size+2:=h;omega))).weak fun x hx _=>by have h9:w.heap.size+2<x:=hx;show w.heap.size≤x;omega
   refine leaves_cons (f:=32) (args:=#[.pointer (some ⟨w.heap.size,0,none⟩),.pointer (some ⟨w.heap.size+1,0,none⟩),.pointer (some ⟨w.heap.size+2,0,none⟩)]) (by simp) (by simp [go_sem]) ?_
   refine (catch_idle _ _ _ _).mono ?_
   rintro e u' w4 ⟨rfl,rfl,rfl⟩
   have hfi:=hfin.out
   simp [Leaves,settle,results,Tryz.results8,go_sem,c0,c1,c2]
   exact hfi
abbrev isE (t:Tree):Prop:=15≤t.op∧t.op≤26
abbrev isS (t:Tree):Prop:=7≤t.op∧t.op≤14
def Ty (W:Tx→Prop) (ty:Tx):Prop:=ty=kInt∨ty=kBool∨∃ s,ty=42::s∧W s
inductive Loc (W:Tx→Prop):Tree→Prop
 |struct {s:Tx} {p:Nat} {ks:List Tree} (h:W s) (hk:∀ u∈ks,Tree.op u=5):Loc W (.mk 2 s [] 0 p ks)
 |var {op:Nat} {s ty:Tx} {p:Nat} (ho:op=3∨op=5) (h:W s) (ht:Ty W ty):Loc W (.mk op s ty 0 p [])
 |func {s ty:Tx} {p:Nat} {ks:List Tree} {b:Tree} (h:W s) (ht:ty= []∨Ty W ty) (hk:∀ u∈ks,Tree.op u=5) (hb:b.op=6):Loc W (.mk 4 s ty 0 p (ks++ [b]))
 |block {p:Nat} {ks:List Tree} (hk:∀ u∈ks,isS u):Loc W (.mk 6 [] [] 0 p ks)
 |set {op:Nat} {s:Tx} {p:Nat} {x:Tree} (ho:op=7∨op=8) (h:W s) (hx:isE x):Loc W (.mk op s [] 0 p [x])
 |put {s:Tx} {p:Nat} {x y:Tree} (h:W s) (hx:isE x) (hy:isE y):Loc W (.mk 9 s [] 0 p [x,y])
 |cond {p:Nat} {x b:Tree} (hx:isE x) (hb:b.op=6):Loc W (.mk 10 [] [] 0 p [x,b])
 |conde {p:Nat} {x b e:Tree} (hx:isE x) (hb:b.op=6) (he:e.op=6∨e.op=10):Loc W (.mk 10 [] [] 0 p [x,b,e])
 |loop {p:Nat} {x b:Tree} (hx:isE x) (hb:b.op=6):Loc W (.mk 11 [] [] 0 p [x,b])
 |print {p:Nat} {x:Tree} (hx:isE x):Loc W (.mk 12 [] [] 0 p [x])
 |back0 {p:Nat} :Loc W (.mk 13 [] [] 0 p [])
 |back1 {p:Nat} {x:Tree} (hx:isE x):Loc W (.mk 13 [] [] 0 p [x])
 |act {p:Nat} {x:Tree} (hx:x.op=21):Loc W (.mk 14 [] [] 0 p [x])
 |num {p:Nat} {n:Int} (h0:0≤n) (h1:n≤9223372036854775807):Loc W (.mk 15 [] [] n p [])
 |truth {p:Nat} {n:Int} (h:n=0∨n=1):Loc W (.mk 16 [] [] n p [])
 |none {p:Nat} :Loc W (.mk 17 [] [] 0 p [])
 |name {op:Nat} {s:Tx} {p:Nat} (ho:op=18∨op=19) (h:W s):Loc W (.mk op s [] 0 p [])
 |field {s:Tx} {p:Nat} {x:Tree} (h:W s) (hx:isE x):Loc W (.mk 20 s [] 0 p [x])
 |call {s:Tx} {p:Nat} {ks:List Tree} (h:W s) (hk:∀ u∈ks,isE u):Loc W (.mk 21 s [] 0 p ks)
 |input {p:Nat} :Loc W (.mk 22 [] [] 0 p [])
 |unary {n:Int} {p:Nat} {x:Tree} (hn:n=17∨n=18) (hx:isE x):Loc W (.mk 23 [] [] n p [x])
 |binary {op:Nat} {n:Int} {p:Nat} {x y:Tree} (ho:op=24∧1≤n∧n≤16∨(op=25∨op=26)∧n=0) (hx:isE x) (hy:isE y):Loc W (.mk op [] [] n p [x,y])
inductive Al (W:Tx→Prop):Tree→Prop
 |mk {op:Nat} {s ty:Tx} {n:Int} {p:Nat} {ks:List Tree} (h:Loc W (.mk op s ty n p ks)) (hk:∀ u∈ks,Al W u):Al W (.mk op s ty n p ks)
theorem Al.ok {W:Tx→Prop} {t:Tree} (h:Al W t):OkT t:=by
 induction h with
 | @mk op s ty n p ks h hk ih=>
   have hkk:∀ (k:Nat) (u:Tree),ks[k]? =some u→OkT u:=fun k u hu=>ih u (List.mem_of_getElem? hu)
   cases h with
   |var ho=>rcases ho with rfl|rfl<;>exact .mk (by omega) (fun h=>by omega) (fun h=>by omega) (by decide) hkk
   |func h ht hp hb=>exact .mk (by omega) (fun h=>by omega) (fun h=>by omega) (by simp [z08]) hkk
   |set ho=>rcases ho with rfl|rfl<;>exact .mk (by omega) (fun h=>by omega) (fun h=>by omega) (by simp [z08]) hkk
   |cond hx hb=>exact .mk (by omega) (fun _=>⟨_,rfl,hb⟩) (fun h=>by omega) (by simp [z08]) hkk
   |conde hx hb=>exact .mk (by omega) (fun _=>⟨_,rfl,hb⟩) (fun h=>by omega) (by simp [z08]) hkk
   |loop hx hb=>exact .mk (by omega) (fun _=>⟨_,rfl,hb⟩) (fun h=>by omega) (by simp [z08]) hkk
   |num h0 h1=>exact .mk (by omega) (fun h=>by omega) (fun _=>⟨h0,h1⟩) (by simp [z08]) hkk
   |name ho=>rcases ho with rfl|rfl<;>exact .mk (by omega) (fun h=>by omega) (fun h=>by omega) (by simp [z08]) hkk
   |binary ho=>
    obtain ho|ho:=ho
    ·obtain ⟨rfl,-⟩:=ho;exact .mk (by omega) (fun h=>by omega) (fun h=>by omega) (by simp [z08]) hkk
    ·obtain ⟨rfl|rfl,-⟩:=ho<;>exact .mk (by omega) (fun h=>by omega) (fun h=>by omega) (by simp [z08]) hkk
   |_=>exact .mk (by omega) (fun h=>by omega) (fun h=>by omega) (by simp [z08]) hkk
def Lf {α:Type} (T:Nat→AT) (c:zxl) (Φ:α→Nat→Prop) (p:Pr α) (i:Nat):Prop:=∀ a j,runW T c p i=some (.ok a j)→Φ a j
section
variable {T:Nat→AT} {c:zxl} {α β:Type} {Φ:α→Nat→Prop} {i:Nat}
theorem zxc {a:α} (h:Φ a i):Lf T c Φ (.ret a) i:=fun b j e=>by cases e;exact h
theorem lf_fail {e:Nat} :Lf T c Φ (.fail e) i:=fun b j e=>by cases e
theorem zqo {k:Nat→AT→Pr α} (h:Lf T c Φ (k i (T i)) i):Lf T c Φ (.peek k) i:=h
theorem zqz {p:Pr α} (h:Lf T c Φ p (i+1)):Lf T c Φ (.next p) i:=h
theorem zx6 {q:Prop} [Decidable q] {p r:Pr α} (h:q→Lf T c Φ p i) (g:¬ q→Lf T c Φ r i):Lf T c Φ (if q then p else r) i:=by
 split
 ·exact h ‹_›
 ·exact g ‹_›
theorem zzn {Ψ:β→Nat→Prop} {p:Pr β} {f:β→Pr α} (h:Lf T c Ψ p i) (g:∀ a j,Ψ a j→Lf T c Φ (f a) j):Lf T c Φ (p.bind f) i:=fun b j e=>by
 rw [zvl] at e
 cases hr:runW T c p i with
 |none=>rw [hr] at e;cases e
 |some r=>
  rw [hr] at e
  cases r with
  |bad=>cases e
  |ok a k=>exact g a k (h a k hr) b j e
theorem zq6 {nt:NT} {d:Nat} {k:List Tree→Pr α} (h:∀ ts j,c nt d i=some (.ok ts j)→Lf T c Φ (k ts) j):Lf T c Φ (.call nt d k) i:=fun b j e=>by
 simp only [runW] at e
 cases hr:c nt d i with
 |none=>rw [hr] at e;cases e
 |some r=>
  rw [hr] at e
  cases r with
  |bad=>cases e
  |ok ts k'=>exact h ts k' hr b j e
theorem Lf.imp {Ψ:α→Nat→Prop} {p:Pr α} (h:Lf T c Φ p i) (g:∀ a j,Φ a j→Ψ a j):Lf T c Ψ p i:=fun a j e=>g a j (h a j e)
theorem zqh {s:Tx} :Lf T c (fun a j=>a=i∧j=i+1) (need s) i:=zqo (zx6 (fun _=>zqz (zxc ⟨rfl,rfl⟩)) fun _=>lf_fail)
theorem lf_word:Lf T c (fun a j=>a=(i,(T i).text)∧(T i).kind=1∧j=i+1) word i:=zqo (zx6 (fun h=>zqz (zxc ⟨rfl,h,rfl⟩)) fun _=>lf_fail)
theorem lf_enter {d:Nat} {s:Tx} :Lf T c (fun a j=>a=i∧j=i+1) (zwp d s) i:=zqo (zx6 (fun _=>zx6 (fun _=>lf_fail) fun _=>zqz (zxc ⟨rfl,rfl⟩)) fun _=>lf_fail)
end
def Wd (T:Nat→AT) (s:Tx):Prop:=∃ k,(T k).kind=1∧(T k).text=s
def Bare (W:Tx→Prop) (f:Tree):Prop:=∃ s p,f= .mk 20 s [] 0 p []∧W s
def Half (W:Tx→Prop) (h:Tree):Prop:=∃ op n p r,h= .mk op [] [] n p [r]∧(op=24∧1≤n∧n≤16∨(op=25∨op=26)∧n=0)∧Al W r∧isE r
def XE (W:Tx→Prop) (i:Nat) (t:Tree) (j:Nat):Prop:=Al W t∧isE t∧i+zxs t≤j
def XS (W:Tx→Prop) (i:Nat) (t:Tree) (j:Nat):Prop:=Al W t∧isS t∧i+zxs t≤j
def XO (W:Tx→Prop) (op:Nat) (i:Nat) (t:Tree) (j:Nat):Prop:=Al W t∧t.op=op∧i+zxs t≤j
def LX (X:Tree→Prop) (i:Nat) (ts:List Tree) (j:Nat):Prop:=(∀ t∈ts,X t)∧i+zxz ts≤j
def Gd (W:Tx→Prop):NT→Nat→List Tree→Nat→Prop
 | .decls,i,ts,j=>LX (fun t=>Al W t∧(t.op=2∨t.op=3∨t.op=4)) i ts j
 | .parts,i,ts,j=>LX (fun t=>Al W t∧t.op=5) i ts j
 | .params,i,ts,j=>LX (fun t=>Al W t∧t.op=5) i ts j
 | .stmts,i,ts,j=>LX (fun t=>Al W t∧isS t) i ts j
 | .stmt,i,ts,j=>∃ t,ts= [t]∧XS W i t j
 | .branch,i,ts,j=>∃ t,ts= [t]∧XO W 10 i t j
 | .binary l,i,ts,j=>1≤l→∃ t,ts= [t]∧XE W i t j
 | .unary,i,ts,j=>∃ t,ts= [t]∧XE W i t j
 | .tail l,i,ts,j=>1≤l→LX (Half W) i ts j
 | .fields,i,ts,j=>LX (Bare W) i ts j
 | .args,i,ts,j=>LX (fun t=>Al W t∧isE t) i ts j
theorem zxb (op:Nat) (s ty:Tx) (n:Int) (p:Nat) (ks:List Tree):zxs (.mk op s ty n p ks)=zxz ks+1:=rfl
theorem zzx:zxz []=0:=rfl
theorem zzi (t:Tree) (l:List Tree):zxz (t::l)=zxs t+zxz l:=rfl
theorem LX.nil {X:Tree→Prop} {i j:Nat} (h:i≤j):LX X i [] j:=⟨(fun t ht=>by cases ht),h⟩
theorem LX.cons {X:Tree→Prop} {i k j:Nat} {t:Tree} {ts:List Tree} (h:X t) (hs:i+zxs t≤k) (hl:LX X k ts j):LX X i (t::ts) j:=
 ⟨fun u hu=>by rcases List.mem_cons.1 hu with rfl|hu;exact h;exact hl.1 u hu,by rw [zzi];have:=hl.2;omega⟩
theorem LX.up {X:Tree→Prop} {i i' j j':Nat} {ts:List Tree} (h:LX X i ts j) (h1:i'≤i) (h2:j≤j'):LX X i' ts j':=⟨h.1,by have:=h.2;omega⟩
theorem fold_bare {W:Tx→Prop} (fs:List Tree):∀ x,Al W x→isE x→(∀ f∈fs,Bare W f)→Al W (fs.foldl (fun a b=>zqg a b) x)∧isE (fs.foldl (fun a b=>zqg a b) x)∧zxs (fs.foldl (fun a b=>zqg a b) x)=zxs x+zxz fs:=by
 induction fs with
 |nil=>intro x h1 h2 _;exact ⟨h1,h2,rfl⟩
 |cons f r ih=>
  intro x h1 h2 h3
  obtain ⟨s,p,rfl,hs⟩:=h3 f (List.mem_cons_self ..)
  have:=ih (zqg x (.mk 20 s [] 0 p [])) (.mk (.field hs h2) (fun u hu=>by obtain rfl:=List.mem_singleton.1 hu;exact h1)) ⟨by show 15≤20;omega,by show 20≤26;omega⟩ (fun g hg=>h3 g (List.mem_cons_of_mem _ hg))
  refine ⟨this.1,this.2.1,?_⟩
  rw [List.foldl_cons,this.2.2]
  simp only [zqg,zxb,zzi,zzx]
  omega
theorem fold_half {W:Tx→Prop} (fs:List Tree):∀ x,Al W x→isE x→(∀ f∈fs,Half W f)→Al W (fs.foldl (fun a b=>zqg a b) x)∧isE (fs.foldl (fun a b=>zqg a b) x)∧zxs (fs.foldl (fun a b=>zqg a b) x)=zxs x+zxz fs:=by
 induction fs with
 |nil=>intro x h1 h2 _;exact ⟨h1,h2,rfl⟩
 |cons f r ih=>
  intro x h1 h2 h3
  obtain ⟨op,n,p,y,rfl,ho,hy,hey⟩:=h3 f (List.mem_cons_self ..)
  have:=ih (zqg x (.mk op [] [] n p [y])) (.mk (.binary ho h2 hey) (fun u hu=>by
   rcases List.mem_cons.1 hu with rfl|hu
   ·exact h1
   ·obtain rfl:=List.mem_singleton.1 hu;exact hy)) (show 15≤op∧op≤26 by omega) (fun g hg=>h3 g (List.mem_cons_of_mem _ hg))
  refine ⟨this.1,this.2.1,?_⟩
  rw [List.foldl_cons,this.2.2]
  simp only [zqg,zxb,zzi,zzx]
  omega
theorem put_al {W:Tx→Prop} (fs:List Tree):∀ h f v,Al W h→isE h→Bare W f→(∀ g∈fs,Bare W g)→Al W v→isE v→Al W (putT h f fs v)∧(putT h f fs v).op=9∧zxs (putT h f fs v)=zxs h+zxs f+zxz fs+zxs v:=by
 induction fs with
 |nil=>
  rintro h f v h1 h2 ⟨s,p,rfl,hs⟩ _ h5 h6
  refine ⟨.mk (.put hs h2 h6) (fun u hu=> ?_),rfl,?_⟩
  ·rcases List.mem_cons.1 hu with rfl|hu
   ·exact h1
   ·obtain rfl:=List.mem_singleton.1 hu;exact h5
  ·simp only [putT,zxb,zzi,zzx];omega
 |cons g r ih=>
  rintro h f v h1 h2 ⟨s,p,rfl,hs⟩ h4 h5 h6
  have:=ih (zqg h (.mk 20 s [] 0 p [])) g v (.mk (.field hs h2) (fun u hu=>by obtain rfl:=List.mem_singleton.1 hu;exact h1)) ⟨by show 15≤20;omega,by show 20≤26;omega⟩ (h4 g (List.mem_cons_self ..)) (fun g hg=>h4 g (List.mem_cons_of_mem _ hg)) h5 h6
  refine ⟨this.1,this.2.1,?_⟩
  rw [putT,this.2.2]
  simp only [zqg,zxb,zzi,zzx]
  omega
section
variable {T:Nat→AT} {c:zxl} (C:∀ nt d i ts j,c nt d i=some (.ok ts j)→Gd (Wd T) nt i ts j) (HN:∀ k,(T k).kind=3→numN (T k).text≤9223372036854775807)
include C in
theorem l_expr (d i:Nat):Lf T c (XE (Wd T) i) (expr d) i:=zq6 fun ts j h=>by
 obtain ⟨t,rfl,ht⟩:=C _ _ _ _ _ h (Nat.le_refl _)
 exact zxc ht
theorem l_typ (i:Nat):Lf T c (fun ty j=>Ty (Wd T) ty∧i+1≤j) typ i:=
 zqo (zx6 (fun _=>zqz (zxc ⟨.inl rfl,Nat.le_refl _⟩)) fun _=>zx6 (fun _=>zqz (zxc ⟨.inr (.inl rfl),Nat.le_refl _⟩)) fun _=>
  zzn zqh fun a j h=>zzn lf_word fun b k g=>zxc ⟨.inr (.inr ⟨_,rfl,by rw [g.1];exact ⟨j,g.2.1,rfl⟩⟩),by omega⟩)
theorem l_typed (op i:Nat) (ho:op=3∨op=5):Lf T c (XO (Wd T) op i) (z1m op) i:=
 zzn lf_word fun p j h=>zzn (l_typ j) fun ty k g=>zxc ⟨.mk (.var ho (by rw [h.1];exact ⟨i,h.2.1,rfl⟩) g.1) (fun u hu=>by cases hu),rfl,by rw [zxb,zzx];omega⟩
theorem l_named (op i:Nat) (ho:op=3∨op=5):Lf T c (XO (Wd T) op i) (named op) i:=
 zzn (l_typed op i ho) fun x j h=>zzn zqh fun a k g=>zxc ⟨h.1,h.2.1,by have:=h.2.2;omega⟩
include C in
theorem l_block (d i:Nat):Lf T c (XO (Wd T) 6 i) (block d) i:=
 zzn lf_enter fun a j h=>zq6 fun ks k g=>zxc (by
  have:=C _ _ _ _ _ g
  exact ⟨.mk (.block fun u hu=>(this.1 u hu).2) (fun u hu=>(this.1 u hu).1),rfl,by rw [zxb];have:=this.2;omega⟩)
include C in
theorem l_struct (i:Nat):Lf T c (XO (Wd T) 2 i) zjb i:=
 zzn lf_word fun p j h=>zzn zqh fun _ k g=>zzn zqh fun _ m f=>zq6 fun ks n e=>zxc (by
  have:=C _ _ _ _ _ e
  exact ⟨.mk (.struct (by rw [h.1];exact ⟨i,h.2.1,rfl⟩) fun u hu=>(this.1 u hu).2) (fun u hu=>(this.1 u hu).1),rfl,by rw [zxb];have:=this.2;omega⟩)
include C in
theorem l_fparts (i:Nat):Lf T c (fun ks j=>LX (fun t=>Al (Wd T) t∧t.op=5) i ks j) fparts i:=
 zzn zqh fun _ j h=>zqo (zx6 (fun _=>zqz (zxc (LX.nil (by omega)))) fun _=>
  zzn (l_typed 5 j (.inr rfl)) fun x k g=>zq6 fun xs m e=>zxc (LX.cons ⟨g.1,g.2.1⟩ (by have:=g.2.2;omega) (C _ _ _ _ _ e)))
include C in
theorem l_function (d i:Nat):Lf T c (XO (Wd T) 4 i) (zjk d) i:=
 zzn lf_word fun p j h=>zzn (l_fparts C j) fun ks k g=>
  zzn (Ψ:=fun ty m=>(ty= []∨Ty (Wd T) ty)∧k≤m) (zqo (zx6 (fun _=>zxc ⟨.inl rfl,Nat.le_refl _⟩) fun _=>(l_typ k).imp fun a j h=>⟨.inr h.1,by omega⟩)) fun ty m f=>
   zzn (l_block C d m) fun b n e=>zxc ⟨.mk (.func (by rw [h.1];exact ⟨i,h.2.1,rfl⟩) f.1 (fun u hu=>(g.1 u hu).2) e.2.1) (fun u hu=>by
    rcases List.mem_append.1 hu with hu|hu
    ·exact (g.1 u hu).1
    ·obtain rfl:=List.mem_singleton.1 hu;exact e.1),rfl,by rw [zxb,zvy,zzi,zzx];have:=g.2;have:=e.2.2;omega⟩
include C in
theorem l_decl (d i:Nat):Lf T c (fun t j=>(Al (Wd T) t∧(t.op=2∨t.op=3∨t.op=4))∧i+zxs t≤j) (decl d) i:=
 zqo (zx6 (fun _=>zqz ((l_struct C _).imp fun a j h=>⟨⟨h.1,.inl h.2.1⟩,by have:=h.2.2;omega⟩)) fun _=>
  zx6 (fun _=>zqz ((l_named 3 _ (.inl rfl)).imp fun a j h=>⟨⟨h.1,.inr (.inl h.2.1)⟩,by have:=h.2.2;omega⟩)) fun _=>
  zx6 (fun _=>zqz ((l_function C d _).imp fun a j h=>⟨⟨h.1,.inr (.inr h.2.1)⟩,by have:=h.2.2;omega⟩)) fun _=>lf_fail)
include C in
theorem l_args (d i:Nat):Lf T c (fun ks j=>LX (fun t=>Al (Wd T) t∧isE t) i ks j) (args d) i:=
 zzn lf_enter fun _ j h=>zqo (zx6 (fun _=>zzn zqh fun _ k g=>zxc (LX.nil (by omega))) fun _=>
  zzn (l_expr C (d+1) j) fun x k g=>zq6 fun xs m e=>zxc (LX.cons ⟨g.1,g.2.1⟩ (by have:=g.2.2;omega) (C _ _ _ _ _ e)))
include C in
theorem l_brack (d i:Nat):Lf T c (XE (Wd T) i) (brack d) i:=
 zzn lf_enter fun _ j h=>zzn (l_expr C (d+1) j) fun x k g=>zzn zqh fun _ m e=>zxc ⟨g.1,g.2.1,by have:=g.2.2;omega⟩
include C in
theorem l_varOrCall (d i:Nat):Lf T c (XE (Wd T) i) (zje d) i:=
 zzn lf_word fun p j h=>zqo (zx6 (fun _=>zzn (l_args C d j) fun ks k g=>zxc ⟨.mk (.call (by rw [h.1];exact ⟨i,h.2.1,rfl⟩) fun u hu=>(g.1 u hu).2) (fun u hu=>(g.1 u hu).1),⟨by show 15≤21;omega,by show 21≤26;omega⟩,by rw [zxb];have:=g.2;omega⟩) fun _=>
  zxc ⟨.mk (.name (.inl rfl) (by rw [h.1];exact ⟨i,h.2.1,rfl⟩)) (fun u hu=>by cases hu),⟨by show 15≤18;omega,by show 18≤26;omega⟩,by rw [zxb,zzx];omega⟩)
theorem l_creation (i:Nat):Lf T c (XE (Wd T) i) zw8 i:=
 zzn zqh fun _ j h=>zzn zqh fun _ k g=>zzn lf_word fun p m f=>zzn zqh fun _ n e=>zxc ⟨.mk (.name (.inr rfl) (by rw [f.1];exact ⟨k,f.2.1,rfl⟩)) (fun u hu=>by cases hu),⟨by show 15≤19;omega,by show 19≤26;omega⟩,by rw [zxb,zzx];omega⟩
theorem l_input (i:Nat):Lf T c (XE (Wd T) i) input i:=
 zzn zqh fun _ j h=>zzn zqh fun _ k g=>zzn zqh fun _ n e=>zxc ⟨.mk .input (fun u hu=>by cases hu),⟨by show 15≤22;omega,by show 22≤26;omega⟩,by rw [zxb,zzx];omega⟩
theorem leaf {W:Tx→Prop} {op:Nat} {n:Int} {i j:Nat} (h:Loc W (.mk op [] [] n i [])) (h1:15≤op) (h2:op≤26) (hj:j=i+1):XE W i (.mk op [] [] n i []) j:=⟨.mk h (fun u hu=>by cases hu),⟨h1,h2⟩,by rw [zxb,zzx];omega⟩
include C HN in
theorem l_primary (d i:Nat):Lf T c (XE (Wd T) i) (zvm d) i:=
 zqo (zx6 (fun h=>zqz (zxc (leaf (.num (Int.natCast_nonneg _) (HN i h)) (by omega) (by omega) rfl))) fun _=>zx6 (fun _=>l_varOrCall C d i) fun _=>
  zx6 (fun _=>zqz (zxc (leaf (.truth (.inr rfl)) (by omega) (by omega) rfl))) fun _=>zx6 (fun _=>zqz (zxc (leaf (.truth (.inl rfl)) (by omega) (by omega) rfl))) fun _=>
  zx6 (fun _=>zqz (zxc (leaf .none (by omega) (by omega) rfl))) fun _=>zx6 (fun _=>l_creation i) fun _=>zx6 (fun _=>l_input i) fun _=>zx6 (fun _=>l_brack C d i) fun _=>lf_fail)
theorem l_fieldName (i:Nat):Lf T c (fun p j=>Wd T p.2∧i+2≤j) fieldName i:=
 zzn zqh fun _ j h=>lf_word.imp fun p k g=>⟨by rw [g.1];exact ⟨j,g.2.1,rfl⟩,by omega⟩
include C HN in
theorem l_postfix (d i:Nat):Lf T c (XE (Wd T) i) (zjv d) i:=
 zzn (l_primary C HN d i) fun x j h=>zq6 fun fs k g=>zxc (by
  have hg:=C _ _ _ _ _ g
  have:=fold_bare fs x h.1 h.2.1 hg.1
  exact ⟨this.1,this.2.1,by rw [this.2.2];have:=hg.2;have:=h.2.2;omega⟩)
end
end Go.Proofs.YtkahbhfbgdbnfaaGreatDoor
