/- CONTRACTS: define, giveBack of package check, given expr of the kid. Only the scope's own blocks have turned. -/
import Derived.Test.YtkahbhfbgdbnfaaGreatDoorZ6
import Derived.Lib.OwnKind
set_option maxRecDepth 100000
set_option maxHeartbeats 1000000
namespace Go.Proofs.YtkahbhfbgdbnfaaGreatDoor
open Go.Lib (hid)
open Go.RowKit
theorem fld_info:(Tryz.prog.info? 97).map (fun i=>(i.zero,i.size,i.bytes))=some (some (.agg #[.string ⟨#[]⟩,.string ⟨#[]⟩]),2,32):=by kernel_rfl
theorem newsF (w:World) (a b:Value) (e:TypeId):∀ j u,[a,b][j]? =some u→(w.alloc (.cells #[a,b] e)).cell? ((⟨w.heap.size,0,none⟩:Addr).add j)=some u:=by
 intro j u h
 match j,h with
 |0,h=>obtain rfl:=Option.some.inj h;exact zxa w _ e 0
 |1,h=>obtain rfl:=Option.some.inj h;exact zxa w _ e 1
 |j+2,h=>simp at h
theorem SG.grown {sb:Nat} {v:Value} {w w':World} (h:w.grownBy w' v.ownBlock):SG sb v w w':=⟨h.os,h.tape,h.output,h.size,fun k hk _ h2=>h.block k hk (fun e=>h2 e.symm)⟩
theorem SC.grown {E:CE} {w w':World} {v:Value} {K:List Fld} {f:Nat} (h:SC E w v K f) (hg:w.grownBy w' v.ownBlock):Below E.w0.heap.size E.w0 w'∧(∀ k,w'.cell? ⟨E.sb,k,none⟩=w.cell? ⟨E.sb,k,none⟩)∧(∀ k,w'.frozen? ⟨E.sb,k,none⟩=w.frozen? ⟨E.sb,k,none⟩):=
 ⟨⟨hg.os.trans h.B.os,hg.tape.trans h.B.tape,hg.output.trans h.B.output,Nat.le_trans h.B.size hg.size,fun k hk=>(hg.block k (Nat.lt_of_lt_of_le hk h.B.size) (fun e=>by have:=(h.own.lt k e.symm).1;omega)).trans (h.B.block k hk)⟩,
  fun k=>hg.cell_far ⟨E.sb,k,none⟩ h.lt (fun e=>h.ne e.symm),fun k=>hg.frozen_far ⟨E.sb,k,none⟩ h.lt (fun e=>h.ne e.symm)⟩
theorem SS.push {E:CE} {w w':World} {v v':Value} {K K':List Fld} {f:Nat} (h:SC E w v K f) (hg:w.grownBy w' v.ownBlock) (ho:w'.ownsRow E.w0.heap.size 97 2 v' K'.length (zqr K')) (hat:∀ g,v'.ownBlock=some g→v.ownBlock=some g∨w.heap.size≤g) (hl:K'.length≤100000) (hf:K.length≤K'.length):SS E v w v' (w'.setCell ⟨E.sb,4,none⟩ v') K' f:=by
 obtain ⟨hB,hc,hz⟩:=h.grown hg
 have hne:v'.ownBlock≠some E.sb:=fun e=>by
  rcases hat _ e with h1|h1
  ·exact h.ne h1
  ·have:=h.lt;omega
 refine ⟨{ B:=low_set hB h.sb0,sb0:=h.sb0,lt:=Nat.lt_of_lt_of_le h.lt (Nat.le_trans hg.size (zxf w' _ _).size),c0:=(zqk (by decide)).trans ((hc 0).trans h.c0),c1:=(zqk (by decide)).trans ((hc 1).trans h.c1),c2:=(zqk (by decide)).trans ((hc 2).trans h.c2),c3:=(zqk (by decide)).trans ((hc 3).trans h.c3),c4:=World.cell?_setCell_same _ _ _ ((hc 4).trans h.c4),c5:=(zqk (by decide)).trans ((hc 5).trans h.c5),fr:=fun k=>(World.frozen?_setCell _ _ _ _).trans ((hz k).trans (h.fr k)),own:=own_set ho hne,ne:=hne,im:=h.im,kl:=hl,fle:=Nat.le_trans h.fle hf },?_,hat⟩
 have h1:SG E.sb v w w':=SG.grown hg
 exact ⟨h1.os,h1.tape,h1.output,Nat.le_trans h1.size (zxf w' _ _).size,fun k hk a b=>((zxf w' ⟨E.sb,4,none⟩ v').block k (Nat.lt_of_lt_of_le hk h1.size) (fun e=>a (Option.some.inj e))).trans (h1.blk k hk a b)⟩
theorem fr_own2 {w:World} {base:Nat} {A:Option Addr} {c:Nat} {K:List Fld} (h:w.ownsRow base 97 2 (.slice A K.length c) K.length (zqr K)):FR w A K∧K.length≤c:=by
 obtain ⟨A',c',e,h1,h2⟩:=zv3 h
 simp only [Value.slice.injEq] at e
 obtain ⟨rfl,-,rfl⟩:=e
 exact ⟨h2,h1⟩
theorem eqB_nil {a:ByteArray} {d:Bool} (h:a.toList.isEmpty=d):eqB a zkx=d:=by
 rw [←h,ByteArray.toList_eq];unfold eqB;show (a.data.toList== [])=_
 cases a.data.toList<;>rfl
theorem cdefine_any (E:CE) (v:Value) (K:List Fld) (f b:Nat) (t u:Tree) (w:World) (H:SC E w v K f) (hKo:KOk E.x K) (N:Nd E b t) (hu:t.kids[0]? =some u) (hz:K.length+1≤100000) (ih:XH E u):
 Calls Tryz.prog 186 #[.pointer (some ⟨E.sb,0,none⟩),.agg #[.pointer (some ⟨b,0,none⟩)]] w (KQ E v w ((zzt E.x K u).bind fun a=>nd t.pos (freeB K f (nm t)) 6 (nd t.pos (!eqB a tNil&& !eqB a zkx) 7 (.ok (K++ [⟨nm t,a⟩])))) f):=by
 have B0:=hid (b1 w (.cells #[.pointer (some ⟨b,0,none⟩)] 25))
 have H0:=hid (H.below (b1 w (.cells #[.pointer (some ⟨b,0,none⟩)] 25)))
 have U0:=hid (PtrAt.new w (some ⟨b,0,none⟩))
 have NN:=hid N
 have HH:=hid H
 have IH:=hid ih
 have HKO:=hid hKo
 obtain ⟨r,hr⟩:∃ r,zzt E.x K u=r:=⟨_,rfl⟩
 have HR:=hid hr
 rw [hr]
 obtain ⟨A,c,hv,hc,-⟩:=zv3 H.own
 subst hv
 obtain ⟨A',c',hsl,hfr⟩:=slice_low H.own H.fle
 have HFR:=hid hfr
 have hfl:=H.fle
 obtain ⟨nb,hn,hkd⟩:=zx8 N H0.out.B 0 u hu
 have N1:=hid hn
 have HKD:=hid hkd
 obtain ⟨i0,hi0,hz0,hz1,hz2⟩:=info_parts fld_info
 have HI0:=hid hi0
 have HZ0:=hid hz0
 have HZ1:=hid hz1
 have HZ2:=hid hz2
 obtain ⟨p,hp⟩:∃ p,plc (K.drop f) (nm t)=p:=⟨_,rfl⟩
 have HP:=hid hp
 have HF:Hid (freeB K f (nm t)= !p.isSome):=by show _=_;unfold freeB;rw [hp]
 have ep:=z3b p
 obtain ⟨mf,hmf⟩:∃ x,K.length - f=x:=⟨_,rfl⟩
 have HMF:Hid ((K.drop f).length=mf):=by show _=_;rw [List.length_drop];exact hmf
 rw [hmf] at hsl
 have hmf5:mf≤100000:=by omega
 have une:(Value.slice A K.length c).ownBlock≠some w.heap.size:=fun e=>by have:=(H.own.lt _ e).2;omega
 have c4:=H0.out.c4
 have c5:=H0.out.c5
 have q4:=H0.out.fr 4
 have BE:Hid (∀ w',Below (w.alloc (.cells #[.pointer (some ⟨b,0,none⟩)] 25)).heap.size (w.alloc (.cells #[.pointer (some ⟨b,0,none⟩)] 25)) w'→Below E.w0.heap.size E.w0 w'):=fun w' h=>H0.out.B.trans (h.mono H0.out.B.size)
 clear H N ih hKo hr hn hkd hu hp hmf hfr hi0 hz0 hz1 hz2
 go_enter Tryz.func186,Tryz.ntmps186
 go_wp2_with fail
 generalize w.alloc (.cells #[.pointer (some ⟨b,0,none⟩)] 25)=wa at*
 have u0:=U0.out.c0
 have ul:=U0.out.lt
 have sl:=H0.out.lt
 have c0:=H0.out.c0
 have c1:=H0.out.c1
 have c2:=H0.out.c2
 clear c0 c1 c2
 have u00:=u0
 have c40:=c4
 refine (zk7 0 _ _ (HKD.out _ (Below.refl _ _)) 0 rfl).mono ?_
 rintro e w1 ⟨rfl,hb⟩
 have hh:=hid hb
 have u0:=zza (Below.refl _ _) u0 ul hb
 clear hb
 go_wp2_with fail
 refine (IH.out _ _ K f _ (H0.out.below hh.out) HKO.out N1.out).mono ?_
 rw [HR.out]
 rintro e w2 ⟨hb,he⟩
 cases r with
 |bad p er=>obtain rfl:=he;exact ⟨rfl,rfl,BE.out _ (hh.out.trans (hb.mono hh.out.size))⟩
 |ok a=>
  obtain rfl:=he
  have u0:=zza hh.out u0 ul hb
  have hh:=hid (hh.out.trans (hb.mono hh.out.size))
  have c4:=zza (Below.refl _ _) c4 sl hh.out
  have c5:=zza (Below.refl _ _) c5 sl hh.out
  clear hb
  go_wp2_with fail
  refine rgS (fun w'=>Below wa.heap.size wa w'∧w'.cell? ⟨w.heap.size,0,none⟩=some (.pointer (some ⟨b,0,none⟩))∧w'.cell? ⟨E.sb,4,none⟩=some (.slice A K.length c)∧w'.cell? ⟨E.sb,5,none⟩=some (.int .i64 f)) (by kernel_rfl) (⟨hh.out.drew,u0,c4,c5⟩) (fun _ a d v _ h=>And.intro ((zql a d v).symm.trans (And.left h)) (And.right h)) fun hHeld hq=> ?_
  refine tkS 0 ⟨some 12,.move (.tmp 0),185,"body.go:62",#[],none⟩ (v:= ?v2_0) hq hHeld rfl (by kernel_rfl) ?y2_0 ?_
  case y2_0=>(intro w h;try dsimp only at h);go_simp<;>with_reducible rfl
  try simp only [Act.put,List.setIfInBounds_toArray,List.set_cons_zero,List.set_cons_succ]
  refine tkS 1 ⟨some 13,.nilCheck (.tmp 12),0,"body.go:62",#[⟨0,.data⟩],none⟩ (v:= ?v2_1) hq hHeld rfl (by kernel_rfl) ?y2_1 ?_
  case y2_1=>(intro w h;try dsimp only at h);go_simp<;>with_reducible rfl
  try simp only [Act.put,List.setIfInBounds_toArray,List.set_cons_zero,List.set_cons_succ]
  refine tkS 2 ⟨some 14,.fieldAddr 179 (.tmp 13) 2,0,"body.go:62",#[⟨1,.data⟩],none⟩ (v:= ?v2_2) hq hHeld rfl (by kernel_rfl) ?y2_2 ?_
  case y2_2=>(intro w h;try dsimp only at h);go_simp<;>with_reducible rfl
  try simp only [Act.put,List.setIfInBounds_toArray,List.set_cons_zero,List.set_cons_succ]
  refine tkS 3 ⟨some 15,.load 41 (.tmp 14),41,"body.go:62",#[⟨2,.data⟩],none⟩ (v:= ?v2_3) hq hHeld rfl (by kernel_rfl) ?y2_3 ?_
  case y2_3=>(intro w h;try dsimp only at h);go_simp<;>with_reducible rfl
  try simp only [Act.put,List.setIfInBounds_toArray,List.set_cons_zero,List.set_cons_succ]
  refine tkS 4 ⟨some 16,.move (.tmp 0),185,"body.go:62",#[],none⟩ (v:= ?v2_4) hq hHeld rfl (by kernel_rfl) ?y2_4 ?_
  case y2_4=>(intro w h;try dsimp only at h);go_simp<;>with_reducible rfl
  try simp only [Act.put,List.setIfInBounds_toArray,List.set_cons_zero,List.set_cons_succ]
  refine tkS 5 ⟨some 17,.nilCheck (.tmp 16),0,"body.go:62",#[⟨4,.data⟩],none⟩ (v:= ?v2_5) hq hHeld rfl (by kernel_rfl) ?y2_5 ?_
  case y2_5=>(intro w h;try dsimp only at h);go_simp<;>with_reducible rfl
  try simp only [Act.put,List.setIfInBounds_toArray,List.set_cons_zero,List.set_cons_succ]
  refine tkS 6 ⟨some 18,.fieldAddr 179 (.tmp 17) 3,0,"body.go:62",#[⟨5,.data⟩],none⟩ (v:= ?v2_6) hq hHeld rfl (by kernel_rfl) ?y2_6 ?_
  case y2_6=>(intro w h;try dsimp only at h);go_simp<;>with_reducible rfl
  try simp only [Act.put,List.setIfInBounds_toArray,List.set_cons_zero,List.set_cons_succ]
  refine tkS 7 ⟨some 19,.load 3 (.tmp 18),3,"body.go:62",#[⟨6,.data⟩],none⟩ (v:= ?v2_7) hq hHeld rfl (by kernel_rfl) ?y2_7 ?_
  case y2_7=>(intro w h;try dsimp only at h);go_simp<;>with_reducible rfl
  try simp only [Act.put,List.setIfInBounds_toArray,List.set_cons_zero,List.set_cons_succ]
  refine tkS 8 ⟨some 20,.slice 41 (.tmp 15) (some (.tmp 19)) none none,41,"body.go:62",#[⟨3,.data⟩,⟨7,.data⟩],none⟩ (v:= ?v2_8) hq hHeld rfl (by kernel_rfl) ?y2_8 ?_
  case y2_8=>(intro w h;try dsimp only at h);go_simp<;>with_reducible rfl
  try simp only [Act.put,List.setIfInBounds_toArray,List.set_cons_zero,List.set_cons_succ]
  refine tkS 9 ⟨some 21,.load 25 (.tmp 3),25,"body.go:62",#[],none⟩ (v:= ?v2_9) hq hHeld rfl (by kernel_rfl) ?y2_9 ?_
  case y2_9=>(intro w h;try dsimp only at h);go_simp<;>with_reducible rfl
  try simp only [Act.put,List.setIfInBounds_toArray,List.set_cons_zero,List.set_cons_succ]
  refine clS 10 ⟨some 22,.call ⟨.value (.func 42),#[.tmp 21],#[25]⟩,9,"body.go:62",#[⟨9,.data⟩],none⟩ rfl (by kernel_rfl) (by kernel_rfl) fun Kc hK=> ?_
  go_simp
  refine (zqx NN.out H0.out.B _ hHeld.1).mono ?_
  rintro e w1 ⟨rfl,hb⟩
  refine hK.out _ _ ⟨hHeld.1.trans (hb.mono hHeld.1.size),zza hHeld.1 hHeld.2.1 ul hb,zza hHeld.1 hHeld.2.2.1 sl hb,zza hHeld.1 hHeld.2.2.2 sl hb⟩ fun hHeld=> ?_
  clear hb
  clear hK Kc
  try simp only [Act.put,List.setIfInBounds_toArray,List.set_cons_zero,List.set_cons_succ]
  refine clS 11 ⟨some 23,.call ⟨.value (.func 48),#[.tmp 20,.tmp 22],#[41,9]⟩,57,"body.go:62",#[⟨8,.data⟩,⟨10,.data⟩,⟨10,.chain⟩],none⟩ rfl (by kernel_rfl) (by kernel_rfl) fun Kc hK=> ?_
  go_simp
  refine (z3d A' c' mf (K.drop f) (nm t) p _ (HFR.out _ (fr_own2 (H0.out.below hHeld.1).own).1) HMF (by omega) HP).mono ?_
  rintro e w1 ⟨rfl,hb⟩
  rw [ep]
  refine hK.out _ _ ⟨hHeld.1.trans (hb.mono hHeld.1.size),zza hHeld.1 hHeld.2.1 ul hb,zza hHeld.1 hHeld.2.2.1 sl hb,zza hHeld.1 hHeld.2.2.2 sl hb⟩ fun hHeld=> ?_
  clear hb
  clear hK Kc
  try simp only [Act.put,List.setIfInBounds_toArray,List.set_cons_zero,List.set_cons_succ]
  refine tkS 12 ⟨some 11,.move (.tmp 23),57,"body.go:62",#[⟨11,.data⟩],none⟩ (v:= ?v2_12) hq hHeld rfl (by kernel_rfl) ?y2_12 ?_
  case y2_12=>(intro w h;try dsimp only at h);go_simp<;>with_reducible rfl
  try simp only [Act.put,List.setIfInBounds_toArray,List.set_cons_zero,List.set_cons_succ]
  refine tkS 13 ⟨some 24,.extract (.tmp 11) 0,3,"body.go:62",#[⟨12,.data⟩],none⟩ (v:= ?v2_13) hq hHeld rfl (by kernel_rfl) ?y2_13 ?_
  case y2_13=>(intro w h;try dsimp only at h);go_simp<;>with_reducible rfl
  try simp only [Act.put,List.setIfInBounds_toArray,List.set_cons_zero,List.set_cons_succ]
  refine tkS 14 ⟨some 25,.extract (.tmp 11) 1,4,"body.go:62",#[⟨12,.data⟩,{ on:=15,ground:= .gcOnly .lateStores }],none⟩ (v:= ?v2_14) hq hHeld rfl (by kernel_rfl) ?y2_14 ?_
  case y2_14=>(intro w h;try dsimp only at h);go_simp<;>with_reducible rfl
  try simp only [Act.put,List.setIfInBounds_toArray,List.set_cons_zero,List.set_cons_succ]
  refine tkS 15 ⟨some 5,.assign (.tmp 24),3,"body.go:62",#[⟨13,.data⟩,⟨11,.chain⟩,⟨0,.phase⟩,⟨1,.phase⟩,⟨2,.phase⟩,⟨3,.phase⟩,⟨4,.phase⟩,⟨5,.phase⟩,⟨6,.phase⟩,⟨7,.phase⟩,⟨8,.phase⟩,⟨9,.phase⟩,⟨10,.phase⟩,⟨11,.phase⟩,⟨12,.phase⟩,⟨13,.phase⟩,{ on:=14,ground:= .textOnly .lateStores }],none⟩ (v:= ?v2_15) hq hHeld rfl (by kernel_rfl) ?y2_15 ?_
  case y2_15=>(intro w h;try dsimp only at h);go_simp<;>with_reducible rfl
  try simp only [Act.put,List.setIfInBounds_toArray,List.set_cons_zero,List.set_cons_succ]
  refine tkS 16 ⟨some 6,.assign (.tmp 25),4,"body.go:62",#[⟨14,.data⟩,⟨15,.chain⟩,⟨0,.phase⟩,⟨1,.phase⟩,⟨2,.phase⟩,⟨3,.phase⟩,⟨4,.phase⟩,⟨5,.phase⟩,⟨6,.phase⟩,⟨7,.phase⟩,⟨8,.phase⟩,⟨9,.phase⟩,⟨10,.phase⟩,⟨11,.phase⟩,⟨12,.phase⟩,⟨13,.phase⟩,⟨14,.phase⟩,⟨15,.phase⟩],none⟩ (v:= ?v2_16) hq hHeld rfl (by kernel_rfl) ?y2_16 ?_
  case y2_16=>(intro w h;try dsimp only at h);go_simp<;>with_reducible rfl
  try simp only [Act.put,List.setIfInBounds_toArray,List.set_cons_zero,List.set_cons_succ]
  refine wpAnyH_done (by kernel_rfl) ?_ _
  have hh:=hid hHeld.1
  have u0:=hHeld.2.1
  have c4:=hHeld.2.2.1
  clear hHeld c5 ep hsl
  generalize p.isSome=d at*
  go_wp2_with fail
  obtain ⟨d1,hd1⟩:∃ x,(!d)=x:=⟨_,rfl⟩
  rw [hd1] at HF
  rw [hd1]
  clear hd1
  refine (zz2 NN.out H0.out.B d1 6 _ hh.out).mono ?_
  rintro e w5 ⟨hb,he⟩
  cases d1 with
  |false=>
   obtain rfl:=he
   exact ⟨rfl,by simp only [CR.bind,HF.out];exact ⟨rfl,BE.out _ (hh.out.trans (hb.mono hh.out.size))⟩⟩
  |true=>
  obtain rfl:=he
  have u0:=zza hh.out u0 ul hb
  have c4:=zza hh.out c4 sl hb
  have hh:=hid (hh.out.trans (hb.mono hh.out.size))
  clear hb
  obtain ⟨n1,hn1⟩:∃ d,(a.toList== [110,105,108])=d:=⟨_,rfl⟩
  obtain ⟨n2,hn2⟩:∃ d,a.toList.isEmpty=d:=⟨_,rfl⟩
  have HN1:Hid (eqB a tNil=n1):=z3e hn1
  have HN2:Hid (eqB a zkx=n2):=eqB_nil hn2
  cases n1 with
  |true=>
   go_wp2_with fail
   refine (zz2 NN.out H0.out.B false 7 _ hh.out).mono ?_
   rintro e w5 ⟨hb,rfl⟩
   exact ⟨rfl,by simp only [CR.bind,HF.out,HN1.out];exact ⟨rfl,BE.out _ (hh.out.trans (hb.mono hh.out.size))⟩⟩
  |false=>
   go_wp2_with fail
   refine (zz2 NN.out H0.out.B (!n2) 7 _ hh.out).mono ?_
   rintro e w5 ⟨hb,he⟩
   cases n2 with
   |true=>
    obtain rfl:=he
    exact ⟨rfl,by simp only [CR.bind,HF.out,HN1.out,HN2.out];exact ⟨rfl,BE.out _ (hh.out.trans (hb.mono hh.out.size))⟩⟩
   |false=>
    obtain rfl:=he
    have u0:=zza hh.out u0 ul hb
    have c4:=zza hh.out c4 sl hb
    have hh:=hid (hh.out.trans (hb.mono hh.out.size))
    clear hb hn1 hn2
    go_wp2_with fail
    refine rgX (fun w'=>Below E.w0.heap.size E.w0 w'∧w'.cell? ⟨w.heap.size,0,none⟩=some (.pointer (some ⟨b,0,none⟩))∧w'.cell? ⟨E.sb,4,none⟩=some (.slice A K.length c)) [13] (by kernel_rfl) (⟨BE.out _ hh.out.drew,u0,c4⟩) (fun _ a d v _ h=>And.intro ((zql a d v).symm.trans (And.left h)) (And.right h)) fun hHeld hq=> ?_
    refine twX 0 ⟨some 38,.move (.tmp 0),185,"body.go:65",#[],none⟩ (v:= ?v1_0) hq rfl (by kernel_rfl) ?y1_0 ?_
    case y1_0=>intro w;go_simp<;>with_reducible rfl
    try simp only [Act.put,List.setIfInBounds_toArray,List.set_cons_zero,List.set_cons_succ]
    refine twX 1 ⟨some 39,.move (.tmp 0),185,"body.go:65",#[],none⟩ (v:= ?v1_1) hq rfl (by kernel_rfl) ?y1_1 ?_
    case y1_1=>intro w;go_simp<;>with_reducible rfl
    try simp only [Act.put,List.setIfInBounds_toArray,List.set_cons_zero,List.set_cons_succ]
    refine twX 2 ⟨some 40,.nilCheck (.tmp 39),0,"body.go:65",#[⟨1,.data⟩],none⟩ (v:= ?v1_2) hq rfl (by kernel_rfl) ?y1_2 ?_
    case y1_2=>intro w;go_simp<;>with_reducible rfl
    try simp only [Act.put,List.setIfInBounds_toArray,List.set_cons_zero,List.set_cons_succ]
    refine twX 3 ⟨some 41,.fieldAddr 179 (.tmp 40) 2,0,"body.go:65",#[⟨2,.data⟩],none⟩ (v:= ?v1_3) hq rfl (by kernel_rfl) ?y1_3 ?_
    case y1_3=>intro w;go_simp<;>with_reducible rfl
    try simp only [Act.put,List.setIfInBounds_toArray,List.set_cons_zero,List.set_cons_succ]
    refine tkX 4 ⟨some 42,.load 41 (.tmp 41),41,"body.go:65",#[⟨3,.data⟩],none⟩ (v:= ?v1_4) hq hHeld rfl (by kernel_rfl) ?y1_4 ?_
    case y1_4=>(intro w h;try dsimp only at h);go_simp<;>with_reducible rfl
    try simp only [Act.put,List.setIfInBounds_toArray,List.set_cons_zero,List.set_cons_succ]
    refine tkX 5 ⟨some 43,.load 25 (.tmp 3),25,"body.go:65",#[],none⟩ (v:= ?v1_5) hq hHeld rfl (by kernel_rfl) ?y1_5 ?_
    case y1_5=>(intro w h;try dsimp only at h);go_simp<;>with_reducible rfl
    try simp only [Act.put,List.setIfInBounds_toArray,List.set_cons_zero,List.set_cons_succ]
    refine twX 7 ⟨some 45,.move (.tmp 4),9,"body.go:65",#[],none⟩ (v:= ?v1_7) hq rfl (by kernel_rfl) ?y1_7 ?_
    case y1_7=>intro w;go_simp<;>with_reducible rfl
    try simp only [Act.put,List.setIfInBounds_toArray,List.set_cons_zero,List.set_cons_succ]
    refine clX 6 ⟨some 44,.call ⟨.value (.func 42),#[.tmp 43],#[25]⟩,9,"body.go:65",#[⟨5,.data⟩],none⟩ rfl (by kernel_rfl) (by kernel_rfl) fun Kc hK=> ?_
    go_simp
    refine (zqx NN.out H0.out.B _ hh.out.drew).mono ?_
    rintro e w8 ⟨rfl,hb⟩
    have hh8:=hid (hh.out.drew.trans (hb.mono hh.out.drew.size))
    have ul8:=Nat.lt_of_lt_of_le ul hh8.out.size
    clear hb
    have hHeld:=And.intro (BE.out _ hh8.out) (And.intro (zza (Below.refl _ _) u00 ul hh8.out) (zza (Below.refl _ _) c40 sl hh8.out))
    refine hK.out _ _ (fun _ _=>hHeld) ?_
    clear hK Kc
    try simp only [Act.put,List.setIfInBounds_toArray,List.set_cons_zero,List.set_cons_succ]
    refine twX 8 ⟨some 46,.build 97 #[(0,.tmp 44),(1,.tmp 45)],97,"body.go:65",#[⟨6,.data⟩,⟨7,.data⟩],none⟩ (v:= ?v1_8) hq rfl (by kernel_rfl) ?y1_8 ?_
    case y1_8=>intro w;go_simp<;>with_reducible rfl
    try simp only [Act.put,List.setIfInBounds_toArray,List.set_cons_zero,List.set_cons_succ]
    refine clX 9 ⟨some 47,.buildSlice 41 1 #[(0,.tmp 46)],41,"body.go:65",#[⟨8,.data⟩],none⟩ rfl (by kernel_rfl) (by kernel_rfl) fun Kc hK=> ?_
    go_simp
    have BV:=hid (b1 w8 (.cells #[.string (nm t),.string a] 97))
    have hh9:=hid (hh8.out.trans (BV.out.mono hh8.out.size))
    have S9:=hid ((SS.refl H0.out).below hh9.out)
    have ul9:w.heap.size<(w8.alloc (.cells #[.string (nm t),.string a] 97)).heap.size:=Nat.lt_of_lt_of_le ul8 BV.out.size
    have hHeld:=And.intro (BE.out _ hh9.out) (And.intro (zza (Below.refl _ _) u00 ul hh9.out) (zza (Below.refl _ _) c40 sl hh9.out))
    refine hK.out _ _ (fun _ _=>hHeld) ?_
    clear hK Kc
    try simp only [Act.put,List.setIfInBounds_toArray,List.set_cons_zero,List.set_cons_succ]
    refine clX 10 ⟨some 48,.call ⟨.builtin Builtin.append,#[.tmp 42,.tmp 47],#[41,41]⟩,41,"body.go:65",#[⟨4,.data⟩,⟨9,.data⟩,⟨6,.chain⟩],none⟩ rfl (by kernel_rfl) (by kernel_rfl) fun Kc hK=> ?_
    refine wp_append_lies _ (.tmp 42) (.tmp 47) _ rfl E.w0.heap.size 97 i0 _ 2 32 Tryz.underlying41 HI0.out HZ0.out HZ1.out HZ2.out rfl (by omega) (.slice A K.length c) K.length (zqr K) rfl (by exact S9.out.sc.own) ⟨w8.heap.size,0,none⟩ 1 1 [.string (nm t),.string a] rfl rfl (by exact newsF w8 _ _ 97) (by simp [Value.oneCell']) (by omega) (by simp only [maxLen];omega) (by omega) (by exact S9.out.sc.B.size) _ rfl ?_
    intro g cap w10 hown hg hat hlt10
    have HOW:=hid hown
    have HG:=hid hg
    have HAT:=hid hat
    clear hown hg hat
    have fz10:=((S9.out.sc.grown HG.out).2.2 4).trans (S9.out.sc.fr 4)
    have hHeld:=And.intro ((S9.out.sc.grown HG.out).1) (And.intro ((HG.out.cell_far ⟨w.heap.size,0,none⟩ ul9 (fun e=>une e.symm)).trans hHeld.2.1) (((S9.out.sc.grown HG.out).2.1 4).trans hHeld.2.2))
    refine hK.out _ _ (fun _ _=>hHeld) ?_
    clear hK Kc
    try simp only [Act.put,List.setIfInBounds_toArray,List.set_cons_zero,List.set_cons_succ]
    refine twX 11 ⟨some 49,.nilCheck (.tmp 38),0,"body.go:65",#[⟨0,.data⟩,⟨0,.phase⟩,⟨1,.phase⟩,⟨2,.phase⟩,⟨3,.phase⟩,⟨4,.phase⟩,⟨5,.phase⟩,⟨6,.phase⟩,⟨7,.phase⟩,⟨8,.phase⟩,⟨9,.phase⟩,⟨10,.phase⟩],none⟩ (v:= ?v1_11) hq rfl (by kernel_rfl) ?y1_11 ?_
    case y1_11=>intro w;go_simp<;>with_reducible rfl
    try simp only [Act.put,List.setIfInBounds_toArray,List.set_cons_zero,List.set_cons_succ]
    refine twX 12 ⟨some 50,.fieldAddr 179 (.tmp 49) 2,0,"body.go:65",#[⟨11,.data⟩,⟨0,.phase⟩,⟨1,.phase⟩,⟨2,.phase⟩,⟨3,.phase⟩,⟨4,.phase⟩,⟨5,.phase⟩,⟨6,.phase⟩,⟨7,.phase⟩,⟨8,.phase⟩,⟨9,.phase⟩,⟨10,.phase⟩],none⟩ (v:= ?v1_12) hq rfl (by kernel_rfl) ?y1_12 ?_
    case y1_12=>intro w;go_simp<;>with_reducible rfl
    try simp only [Act.put,List.setIfInBounds_toArray,List.set_cons_zero,List.set_cons_succ]
    refine clX 13 ⟨none,.store 41 (.tmp 50) (.tmp 48),0,"body.go:65",#[⟨12,.data⟩,⟨10,.data⟩,⟨10,.chain⟩,⟨0,.phase⟩,⟨1,.phase⟩,⟨2,.phase⟩,⟨3,.phase⟩,⟨4,.phase⟩,⟨5,.phase⟩,⟨6,.phase⟩,⟨7,.phase⟩,⟨8,.phase⟩,⟨9,.phase⟩,⟨10,.phase⟩],none⟩ rfl (by kernel_rfl) (by kernel_rfl) fun Kc hK=> ?_
    go_simp
    refine hK.out _ _ (fun h=>absurd h (by decide)) ?_
    clear hK Kc
    try simp only [Act.put,List.setIfInBounds_toArray,List.set_cons_zero,List.set_cons_succ]
    refine dnX (by kernel_rfl) ?_ _
    go_wp2_with fail
    refine bodyPost_end (v:= .tuple #[]) (by simp [results,Tryz.results186,go_sem]) rfl ?_
    simp only [CR.bind,HF.out,HN1.out,HN2.out]
    have hown:w10.ownsRow E.w0.heap.size 97 2 (.slice (some ⟨g,0,none⟩) (K.length+1) cap) (K++ [(⟨nm t,a⟩:Fld)]).length (zqr (K++ [(⟨nm t,a⟩:Fld)])):=by
     rw [zws,List.length_append];exact HOW.out
    have hps:=SS.push S9.out.sc HG.out hown (fun g' hg'=>by
     have e:g=g':=Option.some.inj hg'
     subst e
     rcases HAT.out with h1|h1
     ·exact .inl h1
     ·exact .inr (by rw [h1];exact Nat.le_refl _)) (by rw [List.length_append];exact hz) (by rw [List.length_append];omega)
    exact ⟨_,rfl,((SS.refl HH.out).below B0.out).trans (S9.out.trans hps)⟩
theorem cback0_any (E:CE) (v:Value) (K:List Fld) (f b:Nat) (t:Tree) (w:World) (H:SC E w v K f) (N:Nd E b t) (hl:t.kids.length=0):
 Calls Tryz.prog 192 #[.pointer (some ⟨E.sb,0,none⟩),.agg #[.pointer (some ⟨b,0,none⟩)]] w (KQ E v w (nd t.pos (eqB E.res zkx) 7 (.ok K)) f):=by
 have B0:=hid (b1 w (.cells #[.pointer (some ⟨b,0,none⟩)] 25))
 have H0:=hid (H.below (b1 w (.cells #[.pointer (some ⟨b,0,none⟩)] 25)))
 have U0:=hid (PtrAt.new w (some ⟨b,0,none⟩))
 have NN:=hid N
 have HH:=hid H
 have BE:Hid (∀ w',Below (w.alloc (.cells #[.pointer (some ⟨b,0,none⟩)] 25)).heap.size (w.alloc (.cells #[.pointer (some ⟨b,0,none⟩)] 25)) w'→Below E.w0.heap.size E.w0 w'):=fun w' h=>H0.out.B.trans (h.mono H0.out.B.size)
 obtain ⟨d,hd⟩:∃ d,E.res.toList.isEmpty=d:=⟨_,rfl⟩
 have HD:Hid (eqB E.res zkx=d):=eqB_nil hd
 have c3:=H0.out.c3
 rw [HD.out]
 clear H N
 go_enter Tryz.func192,Tryz.ntmps192
 go_wp2_with fail
 generalize w.alloc (.cells #[.pointer (some ⟨b,0,none⟩)] 25)=wa at*
 have u0:=U0.out.c0
 have ul:=U0.out.lt
 have sl:=H0.out.lt
 have c0:=H0.out.c0
 have c1:=H0.out.c1
 have c2:=H0.out.c2
 clear c0 c1 c2
 refine (zk4 NN.out H0.out.B _ (Below.refl _ _)).mono ?_
 rintro e w1 ⟨rfl,hb⟩
 have hh:=hid hb
 have u0:=zza (Below.refl _ _) u0 ul hb
 have c3:=zza (Below.refl _ _) c3 sl hb
 rw [hl]
 clear hb
 go_wp2_with fail
 refine rgS (fun w'=>Below wa.heap.size wa w'∧w'.cell? ⟨w.heap.size,0,none⟩=some (.pointer (some ⟨b,0,none⟩))∧w'.cell? ⟨E.sb,3,none⟩=some (.string E.res)) (by kernel_rfl) (⟨hh.out.drew,u0,c3⟩) (fun _ a d v _ h=>And.intro ((zql a d v).symm.trans (And.left h)) (And.right h)) fun hHeld hq=> ?_
 refine tkS 0 ⟨some 8,.load 25 (.tmp 3),25,"body.go:78",#[],none⟩ (v:= ?v1_0) hq hHeld rfl (by kernel_rfl) ?y1_0 ?_
 case y1_0=>(intro w h;try dsimp only at h);go_simp<;>with_reducible rfl
 try simp only [Act.put,List.setIfInBounds_toArray,List.set_cons_zero,List.set_cons_succ]
 refine tkS 1 ⟨some 9,.move (.tmp 0),185,"body.go:78",#[],none⟩ (v:= ?v1_1) hq hHeld rfl (by kernel_rfl) ?y1_1 ?_
 case y1_1=>(intro w h;try dsimp only at h);go_simp<;>with_reducible rfl
 try simp only [Act.put,List.setIfInBounds_toArray,List.set_cons_zero,List.set_cons_succ]
 refine tkS 2 ⟨some 10,.nilCheck (.tmp 9),0,"body.go:78",#[⟨1,.data⟩],none⟩ (v:= ?v1_2) hq hHeld rfl (by kernel_rfl) ?y1_2 ?_
 case y1_2=>(intro w h;try dsimp only at h);go_simp<;>with_reducible rfl
 try simp only [Act.put,List.setIfInBounds_toArray,List.set_cons_zero,List.set_cons_succ]
 refine tkS 3 ⟨some 11,.fieldAddr 179 (.tmp 10) 1,0,"body.go:78",#[⟨2,.data⟩],none⟩ (v:= ?v1_3) hq hHeld rfl (by kernel_rfl) ?y1_3 ?_
 case y1_3=>(intro w h;try dsimp only at h);go_simp<;>with_reducible rfl
 try simp only [Act.put,List.setIfInBounds_toArray,List.set_cons_zero,List.set_cons_succ]
 refine tkS 4 ⟨some 12,.load 9 (.tmp 11),9,"body.go:78",#[⟨3,.data⟩],none⟩ (v:= ?v1_4) hq hHeld rfl (by kernel_rfl) ?y1_4 ?_
 case y1_4=>(intro w h;try dsimp only at h);go_simp<;>with_reducible rfl
 try simp only [Act.put,List.setIfInBounds_toArray,List.set_cons_zero,List.set_cons_succ]
 refine tkS 5 ⟨some 13,.binOp .eql 9 (.tmp 12) (.const (.string ⟨#[]⟩)) 9,4,"body.go:78",#[⟨4,.data⟩],none⟩ (v:= ?v1_5) hq hHeld rfl (by kernel_rfl) ?y1_5 ?_
 case y1_5=>(intro w h;try dsimp only at h);go_simp<;>with_reducible rfl
 try simp only [Act.put,List.setIfInBounds_toArray,List.set_cons_zero,List.set_cons_succ]
 refine clS 6 ⟨some 14,.call ⟨.value (.func 148),#[.tmp 8,.tmp 13,.const (.int .i64 7)],#[25,4,26]⟩,0,"body.go:78",#[⟨0,.data⟩,⟨5,.data⟩],none⟩ rfl (by kernel_rfl) (by kernel_rfl) fun Kc hK=> ?_
 go_simp
 refine (zz2 NN.out H0.out.B d 7 _ hHeld.1).mono ?_
 rintro e w1 ⟨hb,he⟩
 cases d with
 |false=>obtain rfl:=he;exact ⟨rfl,rfl,BE.out _ (hHeld.1.trans (hb.mono hHeld.1.size))⟩
 |true=>
 obtain rfl:=he
 refine hK.out _ _ ⟨hHeld.1.trans (hb.mono hHeld.1.size),zza hHeld.1 hHeld.2.1 ul hb,zza hHeld.1 hHeld.2.2 sl hb⟩ fun hHeld=> ?_
 clear hb
 clear hK Kc
 try simp only [Act.put,List.setIfInBounds_toArray,List.set_cons_zero,List.set_cons_succ]
 refine wpAnyH_done (by kernel_rfl) ?_ _
 go_wp2_with fail
 refine bodyPost_ret (v:= .tuple #[]) (by simp [results,Tryz.results192,go_sem]) rfl ?_
 exact ⟨v,rfl,(SS.refl HH.out).below (B0.out.trans (hHeld.1.mono B0.out.size))⟩
theorem cback1_any (E:CE) (v:Value) (K:List Fld) (f b:Nat) (t u:Tree) (w:World) (H:SC E w v K f) (hKo:KOk E.x K) (N:Nd E b t) (hu:t.kids[0]? =some u) (ih:XH E u):
 Calls Tryz.prog 192 #[.pointer (some ⟨E.sb,0,none⟩),.agg #[.pointer (some ⟨b,0,none⟩)]] w (KQ E v w ((zzt E.x K u).bind fun a=>nd t.pos (!eqB E.res zkx&&fitB a E.res) 7 (.ok K)) f):=by
 have B0:=hid (b1 w (.cells #[.pointer (some ⟨b,0,none⟩)] 25))
 have H0:=hid (H.below (b1 w (.cells #[.pointer (some ⟨b,0,none⟩)] 25)))
 have U0:=hid (PtrAt.new w (some ⟨b,0,none⟩))
 have NN:=hid N
 have HH:=hid H
 have BE:Hid (∀ w',Below (w.alloc (.cells #[.pointer (some ⟨b,0,none⟩)] 25)).heap.size (w.alloc (.cells #[.pointer (some ⟨b,0,none⟩)] 25)) w'→Below E.w0.heap.size E.w0 w'):=fun w' h=>H0.out.B.trans (h.mono H0.out.B.size)
 have IH:=hid ih
 have HKO:=hid hKo
 obtain ⟨r,hr⟩:∃ r,zzt E.x K u=r:=⟨_,rfl⟩
 have HR:=hid hr
 rw [hr]
 obtain ⟨nb,hn,hkd⟩:=zx8 N H0.out.B 0 u hu
 have N1:=hid hn
 have HKD:=hid hkd
 have hpos:((t.kids.length:Int)==0)=false:=by have:=(List.getElem?_eq_some_iff.1 hu).1;rw [beq_eq_false_iff_ne];omega
 obtain ⟨d,hd⟩:∃ d,E.res.toList.isEmpty=d:=⟨_,rfl⟩
 have HD:Hid (eqB E.res zkx=d):=eqB_nil hd
 have c3:=H0.out.c3
 rw [HD.out]
 clear H N hr hn hkd hu ih hKo
 go_enter Tryz.func192,Tryz.ntmps192
 go_wp2_with fail
 generalize w.alloc (.cells #[.pointer (some ⟨b,0,none⟩)] 25)=wa at*
 have u0:=U0.out.c0
 have ul:=U0.out.lt
 have sl:=H0.out.lt
 have c0:=H0.out.c0
 have c1:=H0.out.c1
 have c2:=H0.out.c2
 clear c0 c1 c2
 refine (zk4 NN.out H0.out.B _ (Below.refl _ _)).mono ?_
 rintro e w1 ⟨rfl,hb⟩
 have hh:=hid hb
 have u0:=zza (Below.refl _ _) u0 ul hb
 clear hb
 go_wp2_with fail
 refine (zk7 0 _ _ (HKD.out _ hh.out) 0 rfl).mono ?_
 rintro e w2 ⟨rfl,hb⟩
 have u0:=zza hh.out u0 ul hb
 have hh:=hid (hh.out.trans (hb.mono hh.out.size))
 clear hb
 go_wp2_with fail
 refine (IH.out _ _ K f _ (H0.out.below hh.out) HKO.out N1.out).mono ?_
 rw [HR.out]
 rintro e w3 ⟨hb,he⟩
 cases r with
 |bad p er=>obtain rfl:=he;exact ⟨rfl,rfl,BE.out _ (hh.out.trans (hb.mono hh.out.size))⟩
 |ok a=>
  obtain rfl:=he
  have u0:=zza hh.out u0 ul hb
  have hh:=hid (hh.out.trans (hb.mono hh.out.size))
  have c3:=zza (Below.refl _ _) c3 sl hh.out
  obtain ⟨q,hq⟩:∃ q,fitB a E.res=q:=⟨_,rfl⟩
  have HQ:=hid hq
  clear hb hq
  go_wp2_with fail
  cases d with
  |true=>
   refine rgS (fun w'=>Below wa.heap.size wa w'∧w'.cell? ⟨w.heap.size,0,none⟩=some (.pointer (some ⟨b,0,none⟩))∧w'.cell? ⟨E.sb,3,none⟩=some (.string E.res)) (by kernel_rfl) (⟨hh.out.drew,u0,c3⟩) (fun _ a d v _ h=>And.intro ((zql a d v).symm.trans (And.left h)) (And.right h)) fun hHeld hq=> ?_
   refine tkS 0 ⟨some 19,.load 25 (.tmp 3),25,"body.go:82",#[],none⟩ (v:= ?v2_0) hq hHeld rfl (by kernel_rfl) ?y2_0 ?_
   case y2_0=>(intro w h;try dsimp only at h);go_simp<;>with_reducible rfl
   try simp only [Act.put,List.setIfInBounds_toArray,List.set_cons_zero,List.set_cons_succ]
   refine tkS 1 ⟨some 20,.move (.tmp 0),185,"body.go:82",#[],none⟩ (v:= ?v2_1) hq hHeld rfl (by kernel_rfl) ?y2_1 ?_
   case y2_1=>(intro w h;try dsimp only at h);go_simp<;>with_reducible rfl
   try simp only [Act.put,List.setIfInBounds_toArray,List.set_cons_zero,List.set_cons_succ]
   refine tkS 2 ⟨some 21,.nilCheck (.tmp 20),0,"body.go:82",#[⟨1,.data⟩],none⟩ (v:= ?v2_2) hq hHeld rfl (by kernel_rfl) ?y2_2 ?_
   case y2_2=>(intro w h;try dsimp only at h);go_simp<;>with_reducible rfl
   try simp only [Act.put,List.setIfInBounds_toArray,List.set_cons_zero,List.set_cons_succ]
   refine tkS 3 ⟨some 22,.fieldAddr 179 (.tmp 21) 1,0,"body.go:82",#[⟨2,.data⟩],none⟩ (v:= ?v2_3) hq hHeld rfl (by kernel_rfl) ?y2_3 ?_
   case y2_3=>(intro w h;try dsimp only at h);go_simp<;>with_reducible rfl
   try simp only [Act.put,List.setIfInBounds_toArray,List.set_cons_zero,List.set_cons_succ]
   refine tkS 4 ⟨some 23,.load 9 (.tmp 22),9,"body.go:82",#[⟨3,.data⟩],none⟩ (v:= ?v2_4) hq hHeld rfl (by kernel_rfl) ?y2_4 ?_
   case y2_4=>(intro w h;try dsimp only at h);go_simp<;>with_reducible rfl
   try simp only [Act.put,List.setIfInBounds_toArray,List.set_cons_zero,List.set_cons_succ]
   refine tkS 5 ⟨some 24,.binOp .neq 9 (.tmp 23) (.const (.string ⟨#[]⟩)) 9,4,"body.go:82",#[⟨4,.data⟩],none⟩ (v:= ?v2_5) hq hHeld rfl (by kernel_rfl) ?y2_5 ?_
   case y2_5=>(intro w h;try dsimp only at h);go_simp<;>with_reducible rfl
   try simp only [Act.put,List.setIfInBounds_toArray,List.set_cons_zero,List.set_cons_succ]
   refine tkS 6 ⟨some 25,.move (.tmp 24),4,"body.go:82",#[⟨5,.data⟩],none⟩ (v:= ?v2_6) hq hHeld rfl (by kernel_rfl) ?y2_6 ?_
   case y2_6=>(intro w h;try dsimp only at h);go_simp<;>with_reducible rfl
   try simp only [Act.put,List.setIfInBounds_toArray,List.set_cons_zero,List.set_cons_succ]
   refine skS 7 ⟨some 26,.move (.tmp 4),9,"body.go:82",#[⟨6,.guard⟩],some (6,true)⟩ hq hHeld rfl (by kernel_rfl) ?_
   try simp only [Act.put,List.setIfInBounds_toArray,List.set_cons_zero,List.set_cons_succ]
   refine skS 8 ⟨some 27,.move (.tmp 0),185,"body.go:82",#[⟨6,.guard⟩],some (6,true)⟩ hq hHeld rfl (by kernel_rfl) ?_
   try simp only [Act.put,List.setIfInBounds_toArray,List.set_cons_zero,List.set_cons_succ]
   refine skS 9 ⟨some 28,.nilCheck (.tmp 27),0,"body.go:82",#[⟨8,.data⟩,⟨6,.guard⟩],some (6,true)⟩ hq hHeld rfl (by kernel_rfl) ?_
   try simp only [Act.put,List.setIfInBounds_toArray,List.set_cons_zero,List.set_cons_succ]
   refine skS 10 ⟨some 29,.fieldAddr 179 (.tmp 28) 1,0,"body.go:82",#[⟨9,.data⟩,⟨6,.guard⟩],some (6,true)⟩ hq hHeld rfl (by kernel_rfl) ?_
   try simp only [Act.put,List.setIfInBounds_toArray,List.set_cons_zero,List.set_cons_succ]
   refine skS 11 ⟨some 30,.load 9 (.tmp 29),9,"body.go:82",#[⟨10,.data⟩,⟨6,.guard⟩],some (6,true)⟩ hq hHeld rfl (by kernel_rfl) ?_
   try simp only [Act.put,List.setIfInBounds_toArray,List.set_cons_zero,List.set_cons_succ]
   refine skS 12 ⟨some 31,.call ⟨.value (.func 188),#[.tmp 26,.tmp 30],#[9,9]⟩,4,"body.go:82",#[⟨7,.data⟩,⟨11,.data⟩,⟨6,.chain⟩,⟨6,.guard⟩],some (6,true)⟩ hq hHeld rfl (by kernel_rfl) ?_
   try simp only [Act.put,List.setIfInBounds_toArray,List.set_cons_zero,List.set_cons_succ]
   refine tkS 13 ⟨some 32,.pick (.tmp 25) (.tmp 31) (.const (.bool false)),4,"body.go:82",#[⟨6,.data⟩,⟨12,.data⟩],none⟩ (v:= ?v2_13) hq hHeld rfl (by kernel_rfl) ?y2_13 ?_
   case y2_13=>(intro w h;try dsimp only at h);go_simp<;>with_reducible rfl
   try simp only [Act.put,List.setIfInBounds_toArray,List.set_cons_zero,List.set_cons_succ]
   refine clS 14 ⟨some 33,.call ⟨.value (.func 148),#[.tmp 19,.tmp 32,.const (.int .i64 7)],#[25,4,26]⟩,0,"body.go:82",#[⟨0,.data⟩,⟨13,.data⟩,⟨12,.chain⟩],none⟩ rfl (by kernel_rfl) (by kernel_rfl) fun Kc hK=> ?_
   go_simp
   refine (zz2 NN.out H0.out.B false 7 _ hHeld.1).mono ?_
   rintro e w1 ⟨hb,rfl⟩
   exact ⟨rfl,rfl,BE.out _ (hHeld.1.trans (hb.mono hHeld.1.size))⟩
  |false=>
   refine rgS (fun w'=>Below wa.heap.size wa w'∧w'.cell? ⟨w.heap.size,0,none⟩=some (.pointer (some ⟨b,0,none⟩))∧w'.cell? ⟨E.sb,3,none⟩=some (.string E.res)) (by kernel_rfl) (⟨hh.out.drew,u0,c3⟩) (fun _ a d v _ h=>And.intro ((zql a d v).symm.trans (And.left h)) (And.right h)) fun hHeld hq=> ?_
   refine tkS 0 ⟨some 19,.load 25 (.tmp 3),25,"body.go:82",#[],none⟩ (v:= ?v3_0) hq hHeld rfl (by kernel_rfl) ?y3_0 ?_
   case y3_0=>(intro w h;try dsimp only at h);go_simp<;>with_reducible rfl
   try simp only [Act.put,List.setIfInBounds_toArray,List.set_cons_zero,List.set_cons_succ]
   refine tkS 1 ⟨some 20,.move (.tmp 0),185,"body.go:82",#[],none⟩ (v:= ?v3_1) hq hHeld rfl (by kernel_rfl) ?y3_1 ?_
   case y3_1=>(intro w h;try dsimp only at h);go_simp<;>with_reducible rfl
   try simp only [Act.put,List.setIfInBounds_toArray,List.set_cons_zero,List.set_cons_succ]
   refine tkS 2 ⟨some 21,.nilCheck (.tmp 20),0,"body.go:82",#[⟨1,.data⟩],none⟩ (v:= ?v3_2) hq hHeld rfl (by kernel_rfl) ?y3_2 ?_
   case y3_2=>(intro w h;try dsimp only at h);go_simp<;>with_reducible rfl
   try simp only [Act.put,List.setIfInBounds_toArray,List.set_cons_zero,List.set_cons_succ]
   refine tkS 3 ⟨some 22,.fieldAddr 179 (.tmp 21) 1,0,"body.go:82",#[⟨2,.data⟩],none⟩ (v:= ?v3_3) hq hHeld rfl (by kernel_rfl) ?y3_3 ?_
   case y3_3=>(intro w h;try dsimp only at h);go_simp<;>with_reducible rfl
   try simp only [Act.put,List.setIfInBounds_toArray,List.set_cons_zero,List.set_cons_succ]
   refine tkS 4 ⟨some 23,.load 9 (.tmp 22),9,"body.go:82",#[⟨3,.data⟩],none⟩ (v:= ?v3_4) hq hHeld rfl (by kernel_rfl) ?y3_4 ?_
   case y3_4=>(intro w h;try dsimp only at h);go_simp<;>with_reducible rfl
   try simp only [Act.put,List.setIfInBounds_toArray,List.set_cons_zero,List.set_cons_succ]
   refine tkS 5 ⟨some 24,.binOp .neq 9 (.tmp 23) (.const (.string ⟨#[]⟩)) 9,4,"body.go:82",#[⟨4,.data⟩],none⟩ (v:= ?v3_5) hq hHeld rfl (by kernel_rfl) ?y3_5 ?_
   case y3_5=>(intro w h;try dsimp only at h);go_simp<;>with_reducible rfl
   try simp only [Act.put,List.setIfInBounds_toArray,List.set_cons_zero,List.set_cons_succ]
   refine tkS 6 ⟨some 25,.move (.tmp 24),4,"body.go:82",#[⟨5,.data⟩],none⟩ (v:= ?v3_6) hq hHeld rfl (by kernel_rfl) ?y3_6 ?_
   case y3_6=>(intro w h;try dsimp only at h);go_simp<;>with_reducible rfl
   try simp only [Act.put,List.setIfInBounds_toArray,List.set_cons_zero,List.set_cons_succ]
   refine tkS 7 ⟨some 26,.move (.tmp 4),9,"body.go:82",#[⟨6,.guard⟩],some (6,true)⟩ (v:= ?v3_7) hq hHeld rfl (by kernel_rfl) ?y3_7 ?_
   case y3_7=>(intro w h;try dsimp only at h);go_simp<;>with_reducible rfl
   try simp only [Act.put,List.setIfInBounds_toArray,List.set_cons_zero,List.set_cons_succ]
   refine tkS 8 ⟨some 27,.move (.tmp 0),185,"body.go:82",#[⟨6,.guard⟩],some (6,true)⟩ (v:= ?v3_8) hq hHeld rfl (by kernel_rfl) ?y3_8 ?_
   case y3_8=>(intro w h;try dsimp only at h);go_simp<;>with_reducible rfl
   try simp only [Act.put,List.setIfInBounds_toArray,List.set_cons_zero,List.set_cons_succ]
   refine tkS 9 ⟨some 28,.nilCheck (.tmp 27),0,"body.go:82",#[⟨8,.data⟩,⟨6,.guard⟩],some (6,true)⟩ (v:= ?v3_9) hq hHeld rfl (by kernel_rfl) ?y3_9 ?_
   case y3_9=>(intro w h;try dsimp only at h);go_simp<;>with_reducible rfl
   try simp only [Act.put,List.setIfInBounds_toArray,List.set_cons_zero,List.set_cons_succ]
   refine tkS 10 ⟨some 29,.fieldAddr 179 (.tmp 28) 1,0,"body.go:82",#[⟨9,.data⟩,⟨6,.guard⟩],some (6,true)⟩ (v:= ?v3_10) hq hHeld rfl (by kernel_rfl) ?y3_10 ?_
   case y3_10=>(intro w h;try dsimp only at h);go_simp<;>with_reducible rfl
   try simp only [Act.put,List.setIfInBounds_toArray,List.set_cons_zero,List.set_cons_succ]
   refine tkS 11 ⟨some 30,.load 9 (.tmp 29),9,"body.go:82",#[⟨10,.data⟩,⟨6,.guard⟩],some (6,true)⟩ (v:= ?v3_11) hq hHeld rfl (by kernel_rfl) ?y3_11 ?_
   case y3_11=>(intro w h;try dsimp only at h);go_simp<;>with_reducible rfl
   try simp only [Act.put,List.setIfInBounds_toArray,List.set_cons_zero,List.set_cons_succ]
   refine clS 12 ⟨some 31,.call ⟨.value (.func 188),#[.tmp 26,.tmp 30],#[9,9]⟩,4,"body.go:82",#[⟨7,.data⟩,⟨11,.data⟩,⟨6,.chain⟩,⟨6,.guard⟩],some (6,true)⟩ rfl (by kernel_rfl) (by kernel_rfl) fun Kc hK=> ?_
   go_simp
   refine (sameB (zwr a E.res q _ (hid (H0.out.below hHeld.1).imw.good.keys) HQ)).mono ?_
   rintro e w1 ⟨rfl,hb⟩
   refine hK.out _ _ ⟨hHeld.1.trans (hb.mono hHeld.1.size),zza hHeld.1 hHeld.2.1 ul hb,zza hHeld.1 hHeld.2.2 sl hb⟩ fun hHeld=> ?_
   clear hb
   clear hK Kc
   try simp only [Act.put,List.setIfInBounds_toArray,List.set_cons_zero,List.set_cons_succ]
   refine tkS 13 ⟨some 32,.pick (.tmp 25) (.tmp 31) (.const (.bool false)),4,"body.go:82",#[⟨6,.data⟩,⟨12,.data⟩],none⟩ (v:= ?v3_13) hq hHeld rfl (by kernel_rfl) ?y3_13 ?_
   case y3_13=>(intro w h;try dsimp only at h);go_simp<;>with_reducible rfl
   try simp only [Act.put,List.setIfInBounds_toArray,List.set_cons_zero,List.set_cons_succ]
   refine clS 14 ⟨some 33,.call ⟨.value (.func 148),#[.tmp 19,.tmp 32,.const (.int .i64 7)],#[25,4,26]⟩,0,"body.go:82",#[⟨0,.data⟩,⟨13,.data⟩,⟨12,.chain⟩],none⟩ rfl (by kernel_rfl) (by kernel_rfl) fun Kc hK=> ?_
   go_simp
   refine (zz2 NN.out H0.out.B q 7 _ hHeld.1).mono ?_
   rintro e w1 ⟨hb,he⟩
   cases q with
   |false=>obtain rfl:=he;exact ⟨rfl,by simp only [CR.bind,HQ.out];exact ⟨rfl,BE.out _ (hHeld.1.trans (hb.mono hHeld.1.size))⟩⟩
   |true=>
   obtain rfl:=he
   refine hK.out _ _ ⟨hHeld.1.trans (hb.mono hHeld.1.size),zza hHeld.1 hHeld.2.1 ul hb,zza hHeld.1 hHeld.2.2 sl hb⟩ fun hHeld=> ?_
   clear hb
   clear hK Kc
   try simp only [Act.put,List.setIfInBounds_toArray,List.set_cons_zero,List.set_cons_succ]
   refine wpAnyH_done (by kernel_rfl) ?_ _
   go_wp2_with fail
   refine bodyPost_end (v:= .tuple #[]) (by simp [results,Tryz.results192,go_sem]) rfl ?_
   simp only [CR.bind,HQ.out]
   exact ⟨v,rfl,(SS.refl HH.out).below (B0.out.trans (hHeld.1.mono B0.out.size))⟩
theorem cstmt_step (E:CE) (hx:Hid (z1o E.x)) (t:Tree) (W:Wt t) (ihx:∀ (k:Nat) (u:Tree),t.kids[k]? =some u→XH E u) (ih:∀ (k:Nat) (u:Tree),t.kids[k]? =some u→YH E u):YH E t:=by
 intro w v K f b H hKo N hz
 have B0:=hid (b1 w (.cells #[.pointer (some ⟨b,0,none⟩)] 25))
 have H0:=hid (H.below (b1 w (.cells #[.pointer (some ⟨b,0,none⟩)] 25)))
 have U0:=hid (PtrAt.new w (some ⟨b,0,none⟩))
 have NN:=hid N
 have HH:=hid H
 have BE:Hid (∀ w',Below (w.alloc (.cells #[.pointer (some ⟨b,0,none⟩)] 25)).heap.size (w.alloc (.cells #[.pointer (some ⟨b,0,none⟩)] 25)) w'→Below E.w0.heap.size E.w0 w'):=fun w' h=>H0.out.B.trans (h.mono H0.out.B.size)
 have HKO:=hid hKo
 have IHX:=hid ihx
 have IH:=hid ih
 have hzT:=zkl t
 have hz1:K.length+zxz t.kids≤100000:=by omega
 clear H N ih ihx
 have hop:t.op=6∨t.op=7∨t.op=8∨t.op=9∨t.op=10∨t.op=11∨t.op=12∨t.op=13∨t.op=14∨(¬ t.op=6∧¬ t.op=7∧¬ t.op=8∧¬ t.op=9∧¬ t.op=10∧¬ t.op=11∧¬ t.op=12∧¬ t.op=13∧¬ t.op=14):=by omega
 rcases hop with ho|ho|ho|ho|ho|ho|ho|ho|ho|ho
 ·have HS:Hid (zkf E.x E.res t K f=(zxm E.x E.res t.kids K K.length).bind fun _=> .ok K):=by show _=_;rw [zkj,ho];rfl
  go_enter Tryz.func171,Tryz.ntmps171
  go_wp2_with fail
  generalize w.alloc (.cells #[.pointer (some ⟨b,0,none⟩)] 25)=wa at*
  have u0:=U0.out.c0
  have ul:=U0.out.lt
  have sl:=H0.out.lt
  have c0:=H0.out.c0
  have c1:=H0.out.c1
  have c2:=H0.out.c2
  refine (zqf NN.out H0.out.B _ (Below.refl _ _)).mono ?_
  rintro e w1 ⟨rfl,hb⟩
  have u0:=zza (Below.refl _ _) u0 ul hb
  have hh:=hid hb
  clear hb c0 c1 c2
  rw [ho]
  go_wp2_with fail
  refine (cblock_any E hx v K f b t _ (H0.out.below hh.out) HKO.out NN.out hz1 IH.out).mono ?_
  rw [←HS.out]
  intro e w2 he
  obtain ⟨q,hq⟩:∃ q,zkf E.x E.res t K f=q:=⟨_,rfl⟩
  rw [hq] at he
  cases q with
  |bad p er=>obtain ⟨rfl,hb⟩:=he;exact ⟨rfl,by rw [hq];exact ⟨rfl,hb⟩⟩
  |ok K2=>
   obtain ⟨v2,rfl,hs⟩:=he
   have HSS:=hid hs
   clear hs
   go_wp2_with fail
   refine bodyPost_end (v:= .tuple #[]) (by simp [results,Tryz.results171,go_sem]) rfl ?_
   rw [hq]
   exact ⟨v2,rfl,((SS.refl HH.out).below (B0.out.trans (hh.out.mono B0.out.size))).trans HSS.out⟩
 ·obtain ⟨u,hu⟩:=zx4 (t:=t) (i:=0) (by have:=W.least;rw [ho] at this;exact Nat.lt_of_lt_of_le (by decide) this)
  have hk0:kidC (t.kids.map (zzt E.x K)) 0=zzt E.x K u:=zkr hu
  have HS:Hid (zkf E.x E.res t K f=(zzt E.x K u).bind fun a=>nd t.pos (freeB K f (nm t)) 6 (nd t.pos (!eqB a tNil&& !eqB a zkx) 7 (.ok (K++ [⟨nm t,a⟩])))):=by show _=_;rw [zkj,ho,←hk0];rfl
  go_enter Tryz.func171,Tryz.ntmps171
  go_wp2_with fail
  generalize w.alloc (.cells #[.pointer (some ⟨b,0,none⟩)] 25)=wa at*
  have u0:=U0.out.c0
  have ul:=U0.out.lt
  have sl:=H0.out.lt
  have c0:=H0.out.c0
  have c1:=H0.out.c1
  have c2:=H0.out.c2
  refine (zqf NN.out H0.out.B _ (Below.refl _ _)).mono ?_
  rintro e w1 ⟨rfl,hb⟩
  have u0:=zza (Below.refl _ _) u0 ul hb
  have hh:=hid hb
  clear hb c0 c1 c2
  rw [ho]
  go_wp2_with fail
  refine (cdefine_any E v K f b t u _ (H0.out.below hh.out) HKO.out NN.out hu (by omega) (IHX.out 0 u hu)).mono ?_
  rw [←HS.out]
  intro e w2 he
  obtain ⟨q,hq⟩:∃ q,zkf E.x E.res t K f=q:=⟨_,rfl⟩
  rw [hq] at he
  cases q with
  |bad p er=>obtain ⟨rfl,hb⟩:=he;exact ⟨rfl,by rw [hq];exact ⟨rfl,hb⟩⟩
  |ok K2=>
   obtain ⟨v2,rfl,hs⟩:=he
   have HSS:=hid hs
   clear hs
   go_wp2_with fail
   refine bodyPost_end (v:= .tuple #[]) (by simp [results,Tryz.results171,go_sem]) rfl ?_
   rw [hq]
   exact ⟨v2,rfl,((SS.refl HH.out).below (B0.out.trans (hh.out.mono B0.out.size))).trans HSS.out⟩
 ·obtain ⟨u,hu⟩:=zx4 (t:=t) (i:=0) (by have:=W.least;rw [ho] at this;exact Nat.lt_of_lt_of_le (by decide) this)
  have hk0:kidC (t.kids.map (zzt E.x K)) 0=zzt E.x K u:=zkr hu
  obtain ⟨r,hr⟩:∃ r,zzt E.x K u=r:=⟨_,rfl⟩
  have Hr:=hid hr
  have Hu:=hid hu
  obtain ⟨nb0,hn0,hkd0⟩:=zx8 NN.out H0.out.B 0 u hu
  have N1:=hid hn0
  have HKD:=hid hkd0
  clear hn0 hkd0
  obtain ⟨q,hq⟩:∃ q,varC E.x K t.pos (nm t)=q:=⟨_,rfl⟩
  have HQ:=hid hq
  have HS:Hid (zkf E.x E.res t K f=r.bind fun a=>q.bind fun v=>nd t.pos (fitB a v) 7 (.ok K)):=by show _=_;rw [zkj,ho,←hq,←hr,←hk0];rfl
  clear hr hq hu hk0
  go_enter Tryz.func171,Tryz.ntmps171
  go_wp2_with fail
  generalize w.alloc (.cells #[.pointer (some ⟨b,0,none⟩)] 25)=wa at*
  have u0:=U0.out.c0
  have ul:=U0.out.lt
  have sl:=H0.out.lt
  have c0:=H0.out.c0
  have c1:=H0.out.c1
  have c2:=H0.out.c2
  refine (zqf NN.out H0.out.B _ (Below.refl _ _)).mono ?_
  rintro e w1 ⟨rfl,hb⟩
  have u0:=zza (Below.refl _ _) u0 ul hb
  have hh:=hid hb
  clear hb c0 c1 c2
  rw [ho]
  go_wp2_with fail
  refine (zk7 0 _ _ (HKD.out _ hh.out) 0 rfl).mono ?_
  rintro e w2 ⟨rfl,hb⟩
  have u0:=zza hh.out u0 ul hb
  have hh:=hid (hh.out.trans (hb.mono hh.out.size))
  clear hb
  go_wp2_with fail
  refine (IHX.out 0 u Hu.out _ v K f _ (H0.out.below hh.out) HKO.out N1.out).mono ?_
  rw [Hr.out]
  rintro e w3 ⟨hb,he⟩
  cases r with
  |bad p er=>obtain rfl:=he;exact ⟨rfl,by rw [HS.out];exact ⟨rfl,BE.out _ (hh.out.trans (hb.mono hh.out.size))⟩⟩
  |ok a=>
  obtain rfl:=he
  have u0:=zza hh.out u0 ul hb
  have hh:=hid (hh.out.trans (hb.mono hh.out.size))
  clear hb
  go_wp2_with fail
  refine rgS (fun w'=>Below wa.heap.size wa w'∧w'.cell? ⟨w.heap.size,0,none⟩=some (.pointer (some ⟨b,0,none⟩))) (by kernel_rfl) (⟨hh.out.drew,u0⟩) (fun _ a d v _ h=>And.intro ((zql a d v).symm.trans (And.left h)) (And.right h)) fun hHeld hq=> ?_
  refine tkS 0 ⟨some 25,.load 25 (.tmp 3),25,"body.go:37",#[],none⟩ (v:= ?v1_0) hq hHeld rfl (by kernel_rfl) ?y1_0 ?_
  case y1_0=>(intro w h;try dsimp only at h);go_simp<;>with_reducible rfl
  try simp only [Act.put,List.setIfInBounds_toArray,List.set_cons_zero,List.set_cons_succ]
  refine tkS 1 ⟨some 26,.move (.tmp 4),9,"body.go:37",#[],none⟩ (v:= ?v1_1) hq hHeld rfl (by kernel_rfl) ?y1_1 ?_
  case y1_1=>(intro w h;try dsimp only at h);go_simp<;>with_reducible rfl
  try simp only [Act.put,List.setIfInBounds_toArray,List.set_cons_zero,List.set_cons_succ]
  refine tkS 2 ⟨some 27,.move (.tmp 0),185,"body.go:37",#[],none⟩ (v:= ?v1_2) hq hHeld rfl (by kernel_rfl) ?y1_2 ?_
  case y1_2=>(intro w h;try dsimp only at h);go_simp<;>with_reducible rfl
  try simp only [Act.put,List.setIfInBounds_toArray,List.set_cons_zero,List.set_cons_succ]
  refine tkS 3 ⟨some 28,.load 25 (.tmp 3),25,"body.go:37",#[],none⟩ (v:= ?v1_3) hq hHeld rfl (by kernel_rfl) ?y1_3 ?_
  case y1_3=>(intro w h;try dsimp only at h);go_simp<;>with_reducible rfl
  try simp only [Act.put,List.setIfInBounds_toArray,List.set_cons_zero,List.set_cons_succ]
  refine clS 4 ⟨some 29,.call ⟨.value (.func 189),#[.tmp 27,.tmp 28],#[185,25]⟩,9,"body.go:37",#[⟨2,.data⟩,⟨3,.data⟩],none⟩ rfl (by kernel_rfl) (by kernel_rfl) fun Kc hK=> ?_
  go_simp
  refine (z3h E v K f b t _ (H0.out.below hHeld.1) NN.out).mono ?_
  rw [HQ.out]
  rintro e w1 ⟨hb,he⟩
  cases q with
  |bad p er=>obtain rfl:=he;exact ⟨rfl,by rw [HS.out];exact ⟨rfl,BE.out _ (hHeld.1.trans (hb.mono hHeld.1.size))⟩⟩
  |ok a2=>
  obtain rfl:=he
  obtain ⟨d,hd⟩:∃ d,fitB a a2=d:=⟨_,rfl⟩
  have HD:=hid hd
  refine hK.out _ _ ⟨hHeld.1.trans (hb.mono hHeld.1.size),zza hHeld.1 hHeld.2 ul hb⟩ fun hHeld=> ?_
  clear hb hd
  clear hK Kc
  try simp only [Act.put,List.setIfInBounds_toArray,List.set_cons_zero,List.set_cons_succ]
  refine clS 5 ⟨some 30,.call ⟨.value (.func 188),#[.tmp 26,.tmp 29],#[9,9]⟩,4,"body.go:37",#[⟨1,.data⟩,⟨4,.data⟩,⟨4,.chain⟩],none⟩ rfl (by kernel_rfl) (by kernel_rfl) fun Kc hK=> ?_
  go_simp
  refine (sameB (zwr a a2 d _ (hid (H0.out.below hHeld.1).imw.good.keys) HD)).mono ?_
  rintro e w1 ⟨rfl,hb⟩
  refine hK.out _ _ ⟨hHeld.1.trans (hb.mono hHeld.1.size),zza hHeld.1 hHeld.2 ul hb⟩ fun hHeld=> ?_
  clear hb
  clear hK Kc
  try simp only [Act.put,List.setIfInBounds_toArray,List.set_cons_zero,List.set_cons_succ]
  refine clS 6 ⟨some 31,.call ⟨.value (.func 148),#[.tmp 25,.tmp 30,.const (.int .i64 7)],#[25,4,26]⟩,0,"body.go:37",#[⟨0,.data⟩,⟨5,.data⟩,⟨5,.chain⟩],none⟩ rfl (by kernel_rfl) (by kernel_rfl) fun Kc hK=> ?_
  go_simp
  refine (zz2 NN.out H0.out.B d 7 _ hHeld.1).mono ?_
  rintro e w1 ⟨hb,he⟩
  cases d with
  |false=>obtain rfl:=he;exact ⟨rfl,by rw [HS.out];simp only [CR.bind];rw [HD.out];exact ⟨rfl,BE.out _ (hHeld.1.trans (hb.mono hHeld.1.size))⟩⟩
  |true=>
  obtain rfl:=he
  refine hK.out _ _ ⟨hHeld.1.trans (hb.mono hHeld.1.size),zza hHeld.1 hHeld.2 ul hb⟩ fun hHeld=> ?_
  clear hb
  clear hK Kc
  try simp only [Act.put,List.setIfInBounds_toArray,List.set_cons_zero,List.set_cons_succ]
  refine wpAnyH_done (by kernel_rfl) ?_ _
  go_wp2_with fail
  refine bodyPost_end (v:= .tuple #[]) (by simp [results,Tryz.results171,go_sem]) rfl ?_
  rw [HS.out]
  simp only [CR.bind]
  rw [HD.out]
  exact ⟨v,rfl,(SS.refl HH.out).below (B0.out.trans (hHeld.1.mono B0.out.size))⟩
 ·obtain ⟨u,hu⟩:=zx4 (t:=t) (i:=0) (by have:=W.least;rw [ho] at this;exact Nat.lt_of_lt_of_le (by decide) this)
  have hk0:kidC (t.kids.map (zzt E.x K)) 0=zzt E.x K u:=zkr hu
  obtain ⟨u2,hu2⟩:=zx4 (t:=t) (i:=1) (by have:=W.least;rw [ho] at this;exact Nat.lt_of_lt_of_le (by decide) this)
  have hk1:kidC (t.kids.map (zzt E.x K)) 1=zzt E.x K u2:=zkr hu2
  obtain ⟨r,hr⟩:∃ r,zzt E.x K u=r:=⟨_,rfl⟩
  have Hr:=hid hr
  have Hu:=hid hu
  obtain ⟨nb0,hn0,hkd0⟩:=zx8 NN.out H0.out.B 0 u hu
  have N1:=hid hn0
  have HKD:=hid hkd0
  clear hn0 hkd0
  obtain ⟨r2,hr2⟩:∃ r,zzt E.x K u2=r:=⟨_,rfl⟩
  have Hr2:=hid hr2
  have Hu2:=hid hu2
  obtain ⟨nb1,hn1,hkd1⟩:=zx8 NN.out H0.out.B 1 u2 hu2
  have N2:=hid hn1
  have HKD2:=hid hkd1
  clear hn1 hkd1
  have HS:Hid (zkf E.x E.res t K f=r.bind fun a=>r2.bind fun b=>(zjn E.x t.pos (nm t) a).bind fun v=>nd t.pos (fitB b v) 7 (.ok K)):=by show _=_;rw [zkj,ho,←hr,←hr2,←hk0,←hk1];rfl
  clear hr hr2 hu hk0 hu2 hk1
  go_enter Tryz.func171,Tryz.ntmps171
  go_wp2_with fail
  generalize w.alloc (.cells #[.pointer (some ⟨b,0,none⟩)] 25)=wa at*
  have u0:=U0.out.c0
  have ul:=U0.out.lt
  have sl:=H0.out.lt
  have c0:=H0.out.c0
  have c1:=H0.out.c1
  have c2:=H0.out.c2
  refine (zqf NN.out H0.out.B _ (Below.refl _ _)).mono ?_
  rintro e w1 ⟨rfl,hb⟩
  have u0:=zza (Below.refl _ _) u0 ul hb
  have hh:=hid hb
  clear hb c0 c1 c2
  rw [ho]
  go_wp2_with fail
  refine (zk7 0 _ _ (HKD.out _ hh.out) 0 rfl).mono ?_
  rintro e w2 ⟨rfl,hb⟩
  have u0:=zza hh.out u0 ul hb
  have hh:=hid (hh.out.trans (hb.mono hh.out.size))
  clear hb
  go_wp2_with fail
  refine (IHX.out 0 u Hu.out _ v K f _ (H0.out.below hh.out) HKO.out N1.out).mono ?_
  rw [Hr.out]
  rintro e w3 ⟨hb,he⟩
  cases r with
  |bad p er=>obtain rfl:=he;exact ⟨rfl,by rw [HS.out];exact ⟨rfl,BE.out _ (hh.out.trans (hb.mono hh.out.size))⟩⟩
  |ok a=>
  obtain rfl:=he
  have u0:=zza hh.out u0 ul hb
  have hh:=hid (hh.out.trans (hb.mono hh.out.size))
  clear hb
  have HTY:=hid (expr_ty hx.out HKO.out Hr.out)
  go_wp2_with fail
  refine (zk7 1 _ _ (HKD2.out _ hh.out) 1 rfl).mono ?_
  rintro e w2 ⟨rfl,hb⟩
  have u0:=zza hh.out u0 ul hb
  have hh:=hid (hh.out.trans (hb.mono hh.out.size))
  clear hb
  go_wp2_with fail
  refine (IHX.out 1 u2 Hu2.out _ v K f _ (H0.out.below hh.out) HKO.out N2.out).mono ?_
  rw [Hr2.out]
  rintro e w3 ⟨hb,he⟩
  cases r2 with
  |bad p er=>obtain rfl:=he;exact ⟨rfl,by rw [HS.out];exact ⟨rfl,BE.out _ (hh.out.trans (hb.mono hh.out.size))⟩⟩
  |ok a1=>
  obtain rfl:=he
  have u0:=zza hh.out u0 ul hb
  have hh:=hid (hh.out.trans (hb.mono hh.out.size))
  clear hb
  obtain ⟨q,hq⟩:∃ q,zjn E.x t.pos (nm t) a=q:=⟨_,rfl⟩
  have HQ:=hid hq
  have HS:Hid (zkf E.x E.res t K f=q.bind fun v=>nd t.pos (fitB a1 v) 7 (.ok K)):=by show _=_;rw [HS.out];simp only [CR.bind];rw [hq]
  clear hq
  go_wp2_with fail
  refine rgS (fun w'=>Below wa.heap.size wa w'∧w'.cell? ⟨w.heap.size,0,none⟩=some (.pointer (some ⟨b,0,none⟩))) (by kernel_rfl) (⟨hh.out.drew,u0⟩) (fun _ a d v _ h=>And.intro ((zql a d v).symm.trans (And.left h)) (And.right h)) fun hHeld hq=> ?_
  refine tkS 0 ⟨some 42,.load 25 (.tmp 3),25,"body.go:41",#[],none⟩ (v:= ?v2_0) hq hHeld rfl (by kernel_rfl) ?y2_0 ?_
  case y2_0=>(intro w h;try dsimp only at h);go_simp<;>with_reducible rfl
  try simp only [Act.put,List.setIfInBounds_toArray,List.set_cons_zero,List.set_cons_succ]
  refine tkS 1 ⟨some 43,.move (.tmp 6),9,"body.go:41",#[],none⟩ (v:= ?v2_1) hq hHeld rfl (by kernel_rfl) ?y2_1 ?_
  case y2_1=>(intro w h;try dsimp only at h);go_simp<;>with_reducible rfl
  try simp only [Act.put,List.setIfInBounds_toArray,List.set_cons_zero,List.set_cons_succ]
  refine tkS 2 ⟨some 44,.move (.tmp 0),185,"body.go:41",#[],none⟩ (v:= ?v2_2) hq hHeld rfl (by kernel_rfl) ?y2_2 ?_
  case y2_2=>(intro w h;try dsimp only at h);go_simp<;>with_reducible rfl
  try simp only [Act.put,List.setIfInBounds_toArray,List.set_cons_zero,List.set_cons_succ]
  refine tkS 3 ⟨some 45,.load 25 (.tmp 3),25,"body.go:41",#[],none⟩ (v:= ?v2_3) hq hHeld rfl (by kernel_rfl) ?y2_3 ?_
  case y2_3=>(intro w h;try dsimp only at h);go_simp<;>with_reducible rfl
  try simp only [Act.put,List.setIfInBounds_toArray,List.set_cons_zero,List.set_cons_succ]
  refine tkS 4 ⟨some 46,.move (.tmp 5),9,"body.go:41",#[],none⟩ (v:= ?v2_4) hq hHeld rfl (by kernel_rfl) ?y2_4 ?_
  case y2_4=>(intro w h;try dsimp only at h);go_simp<;>with_reducible rfl
  try simp only [Act.put,List.setIfInBounds_toArray,List.set_cons_zero,List.set_cons_succ]
  refine clS 5 ⟨some 47,.call ⟨.value (.func 190),#[.tmp 44,.tmp 45,.tmp 46],#[185,25,9]⟩,9,"body.go:41",#[⟨2,.data⟩,⟨3,.data⟩,⟨4,.data⟩],none⟩ rfl (by kernel_rfl) (by kernel_rfl) fun Kc hK=> ?_
  go_simp
  refine (cfield_any E v K f b t a _ (H0.out.below hHeld.1) NN.out HTY).mono ?_
  rw [HQ.out]
  rintro e w1 ⟨hb,he⟩
  cases q with
  |bad p er=>obtain rfl:=he;exact ⟨rfl,by rw [HS.out];exact ⟨rfl,BE.out _ (hHeld.1.trans (hb.mono hHeld.1.size))⟩⟩
  |ok a2=>
  obtain rfl:=he
  obtain ⟨d,hd⟩:∃ d,fitB a1 a2=d:=⟨_,rfl⟩
  have HD:=hid hd
  refine hK.out _ _ ⟨hHeld.1.trans (hb.mono hHeld.1.size),zza hHeld.1 hHeld.2 ul hb⟩ fun hHeld=> ?_
  clear hb hd
  clear hK Kc
  try simp only [Act.put,List.setIfInBounds_toArray,List.set_cons_zero,List.set_cons_succ]
  refine clS 6 ⟨some 48,.call ⟨.value (.func 188),#[.tmp 43,.tmp 47],#[9,9]⟩,4,"body.go:41",#[⟨1,.data⟩,⟨5,.data⟩,⟨5,.chain⟩],none⟩ rfl (by kernel_rfl) (by kernel_rfl) fun Kc hK=> ?_
  go_simp
  refine (sameB (zwr a1 a2 d _ (hid (H0.out.below hHeld.1).imw.good.keys) HD)).mono ?_
  rintro e w1 ⟨rfl,hb⟩
  refine hK.out _ _ ⟨hHeld.1.trans (hb.mono hHeld.1.size),zza hHeld.1 hHeld.2 ul hb⟩ fun hHeld=> ?_
  clear hb
  clear hK Kc
  try simp only [Act.put,List.setIfInBounds_toArray,List.set_cons_zero,List.set_cons_succ]
  refine clS 7 ⟨some 49,.call ⟨.value (.func 148),#[.tmp 42,.tmp 48,.const (.int .i64 7)],#[25,4,26]⟩,0,"body.go:41",#[⟨0,.data⟩,⟨6,.data⟩,⟨6,.chain⟩],none⟩ rfl (by kernel_rfl) (by kernel_rfl) fun Kc hK=> ?_
  go_simp
  refine (zz2 NN.out H0.out.B d 7 _ hHeld.1).mono ?_
  rintro e w1 ⟨hb,he⟩
  cases d with
  |false=>obtain rfl:=he;exact ⟨rfl,by rw [HS.out];simp only [CR.bind];rw [HD.out];exact ⟨rfl,BE.out _ (hHeld.1.trans (hb.mono hHeld.1.size))⟩⟩
  |true=>
  obtain rfl:=he
  refine hK.out _ _ ⟨hHeld.1.trans (hb.mono hHeld.1.size),zza hHeld.1 hHeld.2 ul hb⟩ fun hHeld=> ?_
  clear hb
  clear hK Kc
  try simp only [Act.put,List.setIfInBounds_toArray,List.set_cons_zero,List.set_cons_succ]
  refine wpAnyH_done (by kernel_rfl) ?_ _
  go_wp2_with fail
  refine bodyPost_end (v:= .tuple #[]) (by simp [results,Tryz.results171,go_sem]) rfl ?_
  rw [HS.out]
  simp only [CR.bind]
  rw [HD.out]
  exact ⟨v,rfl,(SS.refl HH.out).below (B0.out.trans (hHeld.1.mono B0.out.size))⟩
 ·obtain ⟨u,hu⟩:=zx4 (t:=t) (i:=0) (by have:=W.least;rw [ho] at this;exact Nat.lt_of_lt_of_le (by decide) this)
  have hk0:kidC (t.kids.map (zzt E.x K)) 0=zzt E.x K u:=zkr hu
  have HS:Hid (zkf E.x E.res t K f=(zzt E.x K u).bind fun a=>nd t.pos (eqB a zjo) 7 (zxm E.x E.res (t.kids.drop 1) K f)):=by show _=_;rw [zkj,ho,←hk0];rfl
  go_enter Tryz.func171,Tryz.ntmps171
  go_wp2_with fail
  generalize w.alloc (.cells #[.pointer (some ⟨b,0,none⟩)] 25)=wa at*
  have u0:=U0.out.c0
  have ul:=U0.out.lt
  have sl:=H0.out.lt
  have c0:=H0.out.c0
  have c1:=H0.out.c1
  have c2:=H0.out.c2
  refine (zqf NN.out H0.out.B _ (Below.refl _ _)).mono ?_
  rintro e w1 ⟨rfl,hb⟩
  have u0:=zza (Below.refl _ _) u0 ul hb
  have hh:=hid hb
  clear hb c0 c1 c2
  rw [ho]
  go_wp2_with fail
  refine (cbranch_any E hx v K f b t u _ (H0.out.below hh.out) HKO.out NN.out hu hz1 (IHX.out 0 u hu) (fun k u _ h=>IH.out k u h)).mono ?_
  rw [←HS.out]
  intro e w2 he
  obtain ⟨q,hq⟩:∃ q,zkf E.x E.res t K f=q:=⟨_,rfl⟩
  rw [hq] at he
  cases q with
  |bad p er=>obtain ⟨rfl,hb⟩:=he;exact ⟨rfl,by rw [hq];exact ⟨rfl,hb⟩⟩
  |ok K2=>
   obtain ⟨v2,rfl,hs⟩:=he
   have HSS:=hid hs
   clear hs
   go_wp2_with fail
   refine bodyPost_end (v:= .tuple #[]) (by simp [results,Tryz.results171,go_sem]) rfl ?_
   rw [hq]
   exact ⟨v2,rfl,((SS.refl HH.out).below (B0.out.trans (hh.out.mono B0.out.size))).trans HSS.out⟩
 ·obtain ⟨u,hu⟩:=zx4 (t:=t) (i:=0) (by have:=W.least;rw [ho] at this;exact Nat.lt_of_lt_of_le (by decide) this)
  have hk0:kidC (t.kids.map (zzt E.x K)) 0=zzt E.x K u:=zkr hu
  have HS:Hid (zkf E.x E.res t K f=(zzt E.x K u).bind fun a=>nd t.pos (eqB a zjo) 7 (zxm E.x E.res (t.kids.drop 1) K f)):=by show _=_;rw [zkj,ho,←hk0];rfl
  go_enter Tryz.func171,Tryz.ntmps171
  go_wp2_with fail
  generalize w.alloc (.cells #[.pointer (some ⟨b,0,none⟩)] 25)=wa at*
  have u0:=U0.out.c0
  have ul:=U0.out.lt
  have sl:=H0.out.lt
  have c0:=H0.out.c0
  have c1:=H0.out.c1
  have c2:=H0.out.c2
  refine (zqf NN.out H0.out.B _ (Below.refl _ _)).mono ?_
  rintro e w1 ⟨rfl,hb⟩
  have u0:=zza (Below.refl _ _) u0 ul hb
  have hh:=hid hb
  clear hb c0 c1 c2
  rw [ho]
  go_wp2_with fail
  refine (cbranch_any E hx v K f b t u _ (H0.out.below hh.out) HKO.out NN.out hu hz1 (IHX.out 0 u hu) (fun k u _ h=>IH.out k u h)).mono ?_
  rw [←HS.out]
  intro e w2 he
  obtain ⟨q,hq⟩:∃ q,zkf E.x E.res t K f=q:=⟨_,rfl⟩
  rw [hq] at he
  cases q with
  |bad p er=>obtain ⟨rfl,hb⟩:=he;exact ⟨rfl,by rw [hq];exact ⟨rfl,hb⟩⟩
  |ok K2=>
   obtain ⟨v2,rfl,hs⟩:=he
   have HSS:=hid hs
   clear hs
   go_wp2_with fail
   refine bodyPost_end (v:= .tuple #[]) (by simp [results,Tryz.results171,go_sem]) rfl ?_
   rw [hq]
   exact ⟨v2,rfl,((SS.refl HH.out).below (B0.out.trans (hh.out.mono B0.out.size))).trans HSS.out⟩
 ·obtain ⟨u,hu⟩:=zx4 (t:=t) (i:=0) (by have:=W.least;rw [ho] at this;exact Nat.lt_of_lt_of_le (by decide) this)
  have hk0:kidC (t.kids.map (zzt E.x K)) 0=zzt E.x K u:=zkr hu
  obtain ⟨r,hr⟩:∃ r,zzt E.x K u=r:=⟨_,rfl⟩
  have Hr:=hid hr
  have Hu:=hid hu
  obtain ⟨nb0,hn0,hkd0⟩:=zx8 NN.out H0.out.B 0 u hu
  have N1:=hid hn0
  have HKD:=hid hkd0
  clear hn0 hkd0
  have HS:Hid (zkf E.x E.res t K f=r.bind fun a=>nd t.pos (eqB a tInt) 7 (.ok K)):=by show _=_;rw [zkj,ho,←hr,←hk0];rfl
  clear hr hu hk0
  go_enter Tryz.func171,Tryz.ntmps171
  go_wp2_with fail
  generalize w.alloc (.cells #[.pointer (some ⟨b,0,none⟩)] 25)=wa at*
  have u0:=U0.out.c0
  have ul:=U0.out.lt
  have sl:=H0.out.lt
  have c0:=H0.out.c0
  have c1:=H0.out.c1
  have c2:=H0.out.c2
  refine (zqf NN.out H0.out.B _ (Below.refl _ _)).mono ?_
  rintro e w1 ⟨rfl,hb⟩
  have u0:=zza (Below.refl _ _) u0 ul hb
  have hh:=hid hb
  clear hb c0 c1 c2
  rw [ho]
  go_wp2_with fail
  refine rgS (fun w'=>Below wa.heap.size wa w'∧w'.cell? ⟨w.heap.size,0,none⟩=some (.pointer (some ⟨b,0,none⟩))) (by kernel_rfl) (⟨hh.out.drew,u0⟩) (fun _ a d v _ h=>And.intro ((zql a d v).symm.trans (And.left h)) (And.right h)) fun hHeld hq=> ?_
  refine tkS 0 ⟨some 58,.load 25 (.tmp 3),25,"body.go:45",#[],none⟩ (v:= ?v3_0) hq hHeld rfl (by kernel_rfl) ?y3_0 ?_
  case y3_0=>(intro w h;try dsimp only at h);go_simp<;>with_reducible rfl
  try simp only [Act.put,List.setIfInBounds_toArray,List.set_cons_zero,List.set_cons_succ]
  refine tkS 1 ⟨some 59,.move (.tmp 0),185,"body.go:45",#[],none⟩ (v:= ?v3_1) hq hHeld rfl (by kernel_rfl) ?y3_1 ?_
  case y3_1=>(intro w h;try dsimp only at h);go_simp<;>with_reducible rfl
  try simp only [Act.put,List.setIfInBounds_toArray,List.set_cons_zero,List.set_cons_succ]
  refine tkS 2 ⟨some 60,.load 25 (.tmp 3),25,"body.go:45",#[],none⟩ (v:= ?v3_2) hq hHeld rfl (by kernel_rfl) ?y3_2 ?_
  case y3_2=>(intro w h;try dsimp only at h);go_simp<;>with_reducible rfl
  try simp only [Act.put,List.setIfInBounds_toArray,List.set_cons_zero,List.set_cons_succ]
  refine clS 3 ⟨some 61,.call ⟨.value (.func 29),#[.tmp 60,.const (.int .i64 0)],#[25,3]⟩,25,"body.go:45",#[⟨2,.data⟩],none⟩ rfl (by kernel_rfl) (by kernel_rfl) fun Kc hK=> ?_
  go_simp
  refine (zk7 0 _ _ (HKD.out _ hHeld.1) 0 rfl).mono ?_
  rintro e w1 ⟨rfl,hb⟩
  refine hK.out _ _ ⟨hHeld.1.trans (hb.mono hHeld.1.size),zza hHeld.1 hHeld.2 ul hb⟩ fun hHeld=> ?_
  clear hb
  clear hK Kc
  try simp only [Act.put,List.setIfInBounds_toArray,List.set_cons_zero,List.set_cons_succ]
  refine clS 4 ⟨some 62,.call ⟨.value (.func 187),#[.tmp 59,.tmp 61],#[185,25]⟩,9,"body.go:45",#[⟨1,.data⟩,⟨3,.data⟩,⟨3,.chain⟩],none⟩ rfl (by kernel_rfl) (by kernel_rfl) fun Kc hK=> ?_
  go_simp
  refine (IHX.out 0 u Hu.out _ v K f _ (H0.out.below hHeld.1) HKO.out N1.out).mono ?_
  rw [Hr.out]
  rintro e w1 ⟨hb,he⟩
  cases r with
  |bad p er=>obtain rfl:=he;exact ⟨rfl,by rw [HS.out];exact ⟨rfl,BE.out _ (hHeld.1.trans (hb.mono hHeld.1.size))⟩⟩
  |ok a=>
  obtain rfl:=he
  obtain ⟨d,hd⟩:∃ d,(a.toList== [105,110,116])=d:=⟨_,rfl⟩
  have HD:Hid (eqB a tInt=d):=z3e hd
  refine hK.out _ _ ⟨hHeld.1.trans (hb.mono hHeld.1.size),zza hHeld.1 hHeld.2 ul hb⟩ fun hHeld=> ?_
  clear hb
  clear hK Kc
  try simp only [Act.put,List.setIfInBounds_toArray,List.set_cons_zero,List.set_cons_succ]
  refine tkS 5 ⟨some 63,.binOp .eql 9 (.tmp 62) (.const (.string ⟨#[105,110,116]⟩)) 9,4,"body.go:45",#[⟨4,.data⟩],none⟩ (v:= ?v3_5) hq hHeld rfl (by kernel_rfl) ?y3_5 ?_
  case y3_5=>(intro w h;try dsimp only at h);go_simp<;>with_reducible rfl
  try simp only [Act.put,List.setIfInBounds_toArray,List.set_cons_zero,List.set_cons_succ]
  refine clS 6 ⟨some 64,.call ⟨.value (.func 148),#[.tmp 58,.tmp 63,.const (.int .i64 7)],#[25,4,26]⟩,0,"body.go:45",#[⟨0,.data⟩,⟨5,.data⟩,⟨4,.chain⟩],none⟩ rfl (by kernel_rfl) (by kernel_rfl) fun Kc hK=> ?_
  go_simp
  refine (zz2 NN.out H0.out.B d 7 _ hHeld.1).mono ?_
  rintro e w1 ⟨hb,he⟩
  cases d with
  |false=>obtain rfl:=he;exact ⟨rfl,by rw [HS.out];simp only [CR.bind];rw [HD.out];exact ⟨rfl,BE.out _ (hHeld.1.trans (hb.mono hHeld.1.size))⟩⟩
  |true=>
  obtain rfl:=he
  refine hK.out _ _ ⟨hHeld.1.trans (hb.mono hHeld.1.size),zza hHeld.1 hHeld.2 ul hb⟩ fun hHeld=> ?_
  clear hb
  clear hK Kc
  try simp only [Act.put,List.setIfInBounds_toArray,List.set_cons_zero,List.set_cons_succ]
  refine wpAnyH_done (by kernel_rfl) ?_ _
  go_wp2_with fail
  refine bodyPost_end (v:= .tuple #[]) (by simp [results,Tryz.results171,go_sem]) rfl ?_
  rw [HS.out]
  simp only [CR.bind]
  rw [HD.out]
  exact ⟨v,rfl,(SS.refl HH.out).below (B0.out.trans (hHeld.1.mono B0.out.size))⟩
 ·by_cases h0:t.kids.length=0
  ·have HS:Hid (zkf E.x E.res t K f=nd t.pos (eqB E.res zkx) 7 (.ok K)):=by show _=_;rw [zkj,ho];unfold z2b;simp only [List.length_map,h0];rfl
   go_enter Tryz.func171,Tryz.ntmps171
   go_wp2_with fail
   generalize w.alloc (.cells #[.pointer (some ⟨b,0,none⟩)] 25)=wa at*
   have u0:=U0.out.c0
   have ul:=U0.out.lt
   have sl:=H0.out.lt
   have c0:=H0.out.c0
   have c1:=H0.out.c1
   have c2:=H0.out.c2
   refine (zqf NN.out H0.out.B _ (Below.refl _ _)).mono ?_
   rintro e w1 ⟨rfl,hb⟩
   have u0:=zza (Below.refl _ _) u0 ul hb
   have hh:=hid hb
   clear hb c0 c1 c2
   rw [ho]
   go_wp2_with fail
   refine (cback0_any E v K f b t _ (H0.out.below hh.out) NN.out h0).mono ?_
   rw [←HS.out]
   intro e w2 he
   obtain ⟨q,hq⟩:∃ q,zkf E.x E.res t K f=q:=⟨_,rfl⟩
   rw [hq] at he
   cases q with
   |bad p er=>obtain ⟨rfl,hb⟩:=he;exact ⟨rfl,by rw [hq];exact ⟨rfl,hb⟩⟩
   |ok K2=>
    obtain ⟨v2,rfl,hs⟩:=he
    have HSS:=hid hs
    clear hs
    go_wp2_with fail
    refine bodyPost_end (v:= .tuple #[]) (by simp [results,Tryz.results171,go_sem]) rfl ?_
    rw [hq]
    exact ⟨v2,rfl,((SS.refl HH.out).below (B0.out.trans (hh.out.mono B0.out.size))).trans HSS.out⟩
  ·obtain ⟨u,hu⟩:=zx4 (t:=t) (i:=0) (by omega)
   have hk0:kidC (t.kids.map (zzt E.x K)) 0=zzt E.x K u:=zkr hu
   have HS:Hid (zkf E.x E.res t K f=(zzt E.x K u).bind fun a=>nd t.pos (!eqB E.res zkx&&fitB a E.res) 7 (.ok K)):=by show _=_;rw [zkj,ho,←hk0];unfold z2b;simp only [List.length_map,h0];rfl
   go_enter Tryz.func171,Tryz.ntmps171
   go_wp2_with fail
   generalize w.alloc (.cells #[.pointer (some ⟨b,0,none⟩)] 25)=wa at*
   have u0:=U0.out.c0
   have ul:=U0.out.lt
   have sl:=H0.out.lt
   have c0:=H0.out.c0
   have c1:=H0.out.c1
   have c2:=H0.out.c2
   refine (zqf NN.out H0.out.B _ (Below.refl _ _)).mono ?_
   rintro e w1 ⟨rfl,hb⟩
   have u0:=zza (Below.refl _ _) u0 ul hb
   have hh:=hid hb
   clear hb c0 c1 c2
   rw [ho]
   go_wp2_with fail
   refine (cback1_any E v K f b t u _ (H0.out.below hh.out) HKO.out NN.out hu (IHX.out 0 u hu)).mono ?_
   rw [←HS.out]
   intro e w2 he
   obtain ⟨q,hq⟩:∃ q,zkf E.x E.res t K f=q:=⟨_,rfl⟩
   rw [hq] at he
   cases q with
   |bad p er=>obtain ⟨rfl,hb⟩:=he;exact ⟨rfl,by rw [hq];exact ⟨rfl,hb⟩⟩
   |ok K2=>
    obtain ⟨v2,rfl,hs⟩:=he
    have HSS:=hid hs
    clear hs
    go_wp2_with fail
    refine bodyPost_end (v:= .tuple #[]) (by simp [results,Tryz.results171,go_sem]) rfl ?_
    rw [hq]
    exact ⟨v2,rfl,((SS.refl HH.out).below (B0.out.trans (hh.out.mono B0.out.size))).trans HSS.out⟩
 ·obtain ⟨u,hu⟩:=zx4 (t:=t) (i:=0) (by have:=W.least;rw [ho] at this;exact Nat.lt_of_lt_of_le (by decide) this)
  have hk0:kidC (t.kids.map (zzt E.x K)) 0=zzt E.x K u:=zkr hu
  obtain ⟨r,hr⟩:∃ r,zzt E.x K u=r:=⟨_,rfl⟩
  have Hr:=hid hr
  have Hu:=hid hu
  obtain ⟨nb0,hn0,hkd0⟩:=zx8 NN.out H0.out.B 0 u hu
  have N1:=hid hn0
  have HKD:=hid hkd0
  clear hn0 hkd0
  have HS:Hid (zkf E.x E.res t K f=r.bind fun _=> .ok K):=by show _=_;rw [zkj,ho,←hr,←hk0];rfl
  clear hr hu hk0
  go_enter Tryz.func171,Tryz.ntmps171
  go_wp2_with fail
  generalize w.alloc (.cells #[.pointer (some ⟨b,0,none⟩)] 25)=wa at*
  have u0:=U0.out.c0
  have ul:=U0.out.lt
  have sl:=H0.out.lt
  have c0:=H0.out.c0
  have c1:=H0.out.c1
  have c2:=H0.out.c2
  refine (zqf NN.out H0.out.B _ (Below.refl _ _)).mono ?_
  rintro e w1 ⟨rfl,hb⟩
  have u0:=zza (Below.refl _ _) u0 ul hb
  have hh:=hid hb
  clear hb c0 c1 c2
  rw [ho]
  go_wp2_with fail
  refine (zk7 0 _ _ (HKD.out _ hh.out) 0 rfl).mono ?_
  rintro e w2 ⟨rfl,hb⟩
  have u0:=zza hh.out u0 ul hb
  have hh:=hid (hh.out.trans (hb.mono hh.out.size))
  clear hb
  go_wp2_with fail
  refine (IHX.out 0 u Hu.out _ v K f _ (H0.out.below hh.out) HKO.out N1.out).mono ?_
  rw [Hr.out]
  rintro e w3 ⟨hb,he⟩
  cases r with
  |bad p er=>obtain rfl:=he;exact ⟨rfl,by rw [HS.out];exact ⟨rfl,BE.out _ (hh.out.trans (hb.mono hh.out.size))⟩⟩
  |ok a=>
  obtain rfl:=he
  have u0:=zza hh.out u0 ul hb
  have hh:=hid (hh.out.trans (hb.mono hh.out.size))
  clear hb
  go_wp2_with fail
  refine bodyPost_end (v:= .tuple #[]) (by simp [results,Tryz.results171,go_sem]) rfl ?_
  rw [HS.out]
  exact ⟨v,rfl,(SS.refl HH.out).below (B0.out.trans (hh.out.mono B0.out.size))⟩
 ·obtain ⟨n6,n7,n8,n9,n10,n11,n12,n13,n14⟩:=ho
  have HS:Hid (zkf E.x E.res t K f= .ok K):=by show _=_;rw [zkj];unfold z2b;simp only [n6,n7,n8,n9,n10,n11,n12,n13,n14,or_self,if_false]
  have f6:((t.op:Int)==6)=false:=by rw [beq_eq_false_iff_ne];omega
  have f7:((t.op:Int)==7)=false:=by rw [beq_eq_false_iff_ne];omega
  have f8:((t.op:Int)==8)=false:=by rw [beq_eq_false_iff_ne];omega
  have f9:((t.op:Int)==9)=false:=by rw [beq_eq_false_iff_ne];omega
  have f10:((t.op:Int)==10)=false:=by rw [beq_eq_false_iff_ne];omega
  have f11:((t.op:Int)==11)=false:=by rw [beq_eq_false_iff_ne];omega
  have f12:((t.op:Int)==12)=false:=by rw [beq_eq_false_iff_ne];omega
  have f13:((t.op:Int)==13)=false:=by rw [beq_eq_false_iff_ne];omega
  have f14:((t.op:Int)==14)=false:=by rw [beq_eq_false_iff_ne];omega
  clear n6 n7 n8 n9 n10 n11 n12 n13 n14
  go_enter Tryz.func171,Tryz.ntmps171
  go_wp2_with fail
  generalize w.alloc (.cells #[.pointer (some ⟨b,0,none⟩)] 25)=wa at*
  have u0:=U0.out.c0
  have ul:=U0.out.lt
  have sl:=H0.out.lt
  have c0:=H0.out.c0
  have c1:=H0.out.c1
  have c2:=H0.out.c2
  refine (zqf NN.out H0.out.B _ (Below.refl _ _)).mono ?_
  rintro e w1 ⟨rfl,hb⟩
  have u0:=zza (Below.refl _ _) u0 ul hb
  have hh:=hid hb
  clear hb c0 c1 c2
  go_wp2_with fail
  refine bodyPost_end (v:= .tuple #[]) (by simp [results,Tryz.results171,go_sem]) rfl ?_
  rw [HS.out]
  exact ⟨v,rfl,(SS.refl HH.out).below (B0.out.trans (hh.out.mono B0.out.size))⟩
theorem cstmt_any (E:CE) (hx:z1o E.x) (N:Nat):∀ t:Tree,zxs t≤N→Wt t→YH E t:=by
 induction N with
 |zero=>intro t h;rw [zkl] at h;omega
 |succ N ih=>exact fun t h W=>cstmt_step E hx t W (fun k u hu=>cexpr_any E hx (zxs u) u (Nat.le_refl _) (W.kid hu)) fun k u hu=>ih u (by have:=zk0 hu;omega) (W.kid hu)
theorem wp_end {P:Program} {fn:Func} {R:Ending→World→Prop} {a:Act} {w:World} {v:Value} (hr:(results fn a.tmps).run P w= .ok v w) (hd:a.defers= []) (h:R (.returned v) w):bodyPost P fn R .normal a w:=⟨hd,v,hr,h⟩
theorem cfieldOf_any (E:CE) (b:Nat) (t:Tree) (w:World) (N:Nd E b t) (hB:Below E.w0.heap.size E.w0 w):
 Calls Tryz.prog 146 #[.agg #[.pointer (some ⟨b,0,none⟩)]] w fun e w'=>e= .returned (.agg #[.string (nm t),.string (tp t)])∧Below w.heap.size w w':=by
 have B0:=hid (b2 w (.cells #[.pointer (some ⟨b,0,none⟩)] 25) (.cells #[.string ⟨#[]⟩,.string ⟨#[]⟩] 97))
 have HB0:=hid (hB.trans ((b2 w (.cells #[.pointer (some ⟨b,0,none⟩)] 25) (.cells #[.string ⟨#[]⟩,.string ⟨#[]⟩] 97)).mono hB.size))
 have U0:=hid ((PtrAt.new w (some ⟨b,0,none⟩)).below (b1 _ (.cells #[.string ⟨#[]⟩,.string ⟨#[]⟩] 97)))
 have NN:=hid N
 have r0:((w.alloc (.cells #[.pointer (some ⟨b,0,none⟩)] 25)).alloc (.cells #[.string ⟨#[]⟩,.string ⟨#[]⟩] 97)).cell? ⟨w.heap.size+1,0,none⟩=some (.string ⟨#[]⟩):=zxh w _ _ _ _ 0
 have r1:((w.alloc (.cells #[.pointer (some ⟨b,0,none⟩)] 25)).alloc (.cells #[.string ⟨#[]⟩,.string ⟨#[]⟩] 97)).cell? ⟨w.heap.size+1,1,none⟩=some (.string ⟨#[]⟩):=zxh w _ _ _ _ 1
 have rl:w.heap.size+1<((w.alloc (.cells #[.pointer (some ⟨b,0,none⟩)] 25)).alloc (.cells #[.string ⟨#[]⟩,.string ⟨#[]⟩] 97)).heap.size:=by simp
 have z0:∀ k,((w.alloc (.cells #[.pointer (some ⟨b,0,none⟩)] 25)).alloc (.cells #[.string ⟨#[]⟩,.string ⟨#[]⟩] 97)).frozen? ⟨w.heap.size+1,k,none⟩=false:=by intro k;simp [go_sem]
 clear N
 go_enter Tryz.func146,Tryz.ntmps146
 go_wp2_with fail
 generalize (w.alloc (.cells #[.pointer (some ⟨b,0,none⟩)] 25)).alloc (.cells #[.string ⟨#[]⟩,.string ⟨#[]⟩] 97)=wa at*
 have u0:=U0.out.c0
 have ul:=U0.out.lt
 refine rgX (fun w'=>Below wa.heap.size wa w'∧w'.cell? ⟨w.heap.size,0,none⟩=some (.pointer (some ⟨b,0,none⟩))) [5] (by kernel_rfl) (⟨(Below.refl _ _).drew,u0⟩) (fun _ a d v _ h=>And.intro ((zql a d v).symm.trans (And.left h)) (And.right h)) fun hHeld hq=> ?_
 refine tkX 0 ⟨some 3,.load 25 (.tmp 1),25,"declare.go:47",#[],none⟩ (v:= ?v1_0) hq hHeld rfl (by kernel_rfl) ?y1_0 ?_
 case y1_0=>(intro w h;try dsimp only at h);go_simp<;>with_reducible rfl
 try simp only [Act.put,List.setIfInBounds_toArray,List.set_cons_zero,List.set_cons_succ]
 refine tkX 2 ⟨some 5,.load 25 (.tmp 1),25,"declare.go:47",#[],none⟩ (v:= ?v1_2) hq hHeld rfl (by kernel_rfl) ?y1_2 ?_
 case y1_2=>(intro w h;try dsimp only at h);go_simp<;>with_reducible rfl
 try simp only [Act.put,List.setIfInBounds_toArray,List.set_cons_zero,List.set_cons_succ]
 refine clX 1 ⟨some 4,.call ⟨.value (.func 42),#[.tmp 3],#[25]⟩,9,"declare.go:47",#[⟨0,.data⟩],none⟩ rfl (by kernel_rfl) (by kernel_rfl) fun Kc hK=> ?_
 go_simp
 refine (zqx NN.out HB0.out _ hHeld.1).mono ?_
 rintro e w1 ⟨rfl,hb⟩
 have hHeld:=And.intro (hHeld.1.trans (hb.mono hHeld.1.size)) (zza hHeld.1 hHeld.2 ul hb)
 refine hK.out _ _ (fun _ _=>hHeld) ?_
 clear hb
 clear hK Kc
 try simp only [Act.put,List.setIfInBounds_toArray,List.set_cons_zero,List.set_cons_succ]
 refine clX 3 ⟨some 6,.call ⟨.value (.func 43),#[.tmp 5],#[25]⟩,9,"declare.go:47",#[⟨2,.data⟩,⟨1,.chain⟩],none⟩ rfl (by kernel_rfl) (by kernel_rfl) fun Kc hK=> ?_
 go_simp
 refine (z02 NN.out HB0.out _ hHeld.1).mono ?_
 rintro e w1 ⟨rfl,hb⟩
 have r0:=zza (Below.refl _ _) r0 rl (hHeld.1.trans (hb.mono hHeld.1.size))
 have r1:=zza (Below.refl _ _) r1 rl (hHeld.1.trans (hb.mono hHeld.1.size))
 have q0:=((hHeld.1.trans (hb.mono hHeld.1.size)).frozen (p:=⟨w.heap.size+1,0,none⟩) rl).trans (z0 0)
 have q1:=((hHeld.1.trans (hb.mono hHeld.1.size)).frozen (p:=⟨w.heap.size+1,1,none⟩) rl).trans (z0 1)
 have hHeld:=And.intro (hHeld.1.trans (hb.mono hHeld.1.size)) (zza hHeld.1 hHeld.2 ul hb)
 refine hK.out _ _ (fun _ _=>hHeld) ?_
 clear hb
 clear hK Kc
 try simp only [Act.put,List.setIfInBounds_toArray,List.set_cons_zero,List.set_cons_succ]
 refine twX 4 ⟨some 7,.build 97 #[(0,.tmp 4),(1,.tmp 6)],97,"declare.go:47",#[⟨1,.data⟩,⟨3,.data⟩],none⟩ (v:= ?v1_4) hq rfl (by kernel_rfl) ?y1_4 ?_
 case y1_4=>intro w;go_simp<;>with_reducible rfl
 try simp only [Act.put,List.setIfInBounds_toArray,List.set_cons_zero,List.set_cons_succ]
 refine clX 5 ⟨none,.store 97 (.tmp 2) (.tmp 7),0,"declare.go:47",#[⟨4,.data⟩,⟨3,.chain⟩,⟨0,.phase⟩,⟨1,.phase⟩,⟨2,.phase⟩,⟨3,.phase⟩,⟨4,.phase⟩],none⟩ rfl (by kernel_rfl) (by kernel_rfl) fun Kc hK=> ?_
 go_simp
 refine hK.out _ _ (fun h=>absurd h (by decide)) ?_
 clear hK Kc
 try simp only [Act.put,List.setIfInBounds_toArray,List.set_cons_zero,List.set_cons_succ]
 refine dnX (by kernel_rfl) ?_ _
 have BF:Hid (Below w.heap.size w ((w1.setCell ⟨w.heap.size+1,0,none⟩ (.string (nm t))).setCell ⟨w.heap.size+1,1,none⟩ (.string (tp t)))):=((B0.out.trans (hHeld.1.mono B0.out.size)).setCell (p:=⟨w.heap.size+1,0,none⟩) (Nat.le_succ _) _).setCell (p:=⟨w.heap.size+1,1,none⟩) (Nat.le_succ _) _
 go_wp2_with fail
 refine bodyPost_ret (v:= .agg #[.string (nm t),.string (tp t)]) (by simp [results,Tryz.results146,go_sem,r0,r1]) rfl ?_
 exact ⟨rfl,BF.out⟩
theorem ccount_any (E:CE) (b:Nat) (t:Tree) (w:World) (N:Nd E b t) (hB:Below E.w0.heap.size E.w0 w) (hk:t.op=4→1≤t.kids.length):
 Calls Tryz.prog 152 #[.agg #[.pointer (some ⟨b,0,none⟩)]] w fun e w'=>e= .returned (.int .i64 (cntP t))∧Below w.heap.size w w':=by
 have B0:=hid (b1 w (.cells #[.pointer (some ⟨b,0,none⟩)] 25))
 have HB0:=hid (hB.trans ((b1 w (.cells #[.pointer (some ⟨b,0,none⟩)] 25)).mono hB.size))
 have U0:=hid (PtrAt.new w (some ⟨b,0,none⟩))
 have NN:=hid N
 have hm6:t.kids.length≤6000:=by obtain ⟨-,-,-,-,h,-⟩:=N.kid;omega
 clear N
 by_cases ho:t.op=4
 ·have hc:((cntP t:Nat):Int)=(t.kids.length:Int) - 1:=by unfold cntP;rw [if_pos ho];have:=hk ho;omega
  rw [hc]
  go_enter Tryz.func152,Tryz.ntmps152
  go_wp2_with fail
  generalize w.alloc (.cells #[.pointer (some ⟨b,0,none⟩)] 25)=wa at*
  have u0:=U0.out.c0
  have ul:=U0.out.lt
  refine (zqf NN.out HB0.out _ (Below.refl _ _)).mono ?_
  rintro e w1 ⟨rfl,hb⟩
  have u0:=zza (Below.refl _ _) u0 ul hb
  have hh:=hid hb
  rw [ho]
  clear hb
  go_wp2_with fail
  refine (zk4 NN.out HB0.out _ hh.out).mono ?_
  rintro e w2 ⟨rfl,hb⟩
  have B2:=hid (onB B0.out hh.out hb)
  clear hb
  go_wp2_with fail
  go_ret
  exact ⟨rfl,B2.out⟩
 ·have hc:cntP t=t.kids.length:=by unfold cntP;rw [if_neg ho]
  rw [hc]
  have f4:((t.op:Int)==4)=false:=by rw [beq_eq_false_iff_ne];omega
  go_enter Tryz.func152,Tryz.ntmps152
  go_wp2_with fail
  generalize w.alloc (.cells #[.pointer (some ⟨b,0,none⟩)] 25)=wa at*
  have u0:=U0.out.c0
  have ul:=U0.out.lt
  refine (zqf NN.out HB0.out _ (Below.refl _ _)).mono ?_
  rintro e w1 ⟨rfl,hb⟩
  have u0:=zza (Below.refl _ _) u0 ul hb
  have hh:=hid hb
  clear hb
  go_wp2_with fail
  refine (zk4 NN.out HB0.out _ hh.out).mono ?_
  rintro e w2 ⟨rfl,hb⟩
  have B2:=hid (onB B0.out hh.out hb)
  clear hb
  go_wp2_with fail
  go_ret
  exact ⟨rfl,B2.out⟩
theorem parts_snoc {t u:Tree} {k:Nat} (hu:t.kids[k]? =some u):(t.kids.take (k+1)).map zwo=(t.kids.take k).map zwo++ [zwo u]:=by
 rw [List.take_add_one,hu,List.map_append];rfl
def PRel (wa:World) (t:Tree) (m:Nat) (v i:Value) (wr:World):Prop:=
 ∃ k:Nat,k≤m∧i= .int .i64 k∧Hid (wr.ownsRow wa.heap.size 97 2 v k (zqr ((t.kids.take k).map zwo)))∧Hid (Below wa.heap.size wa wr)
theorem cntP_le (t:Tree):cntP t≤t.kids.length:=by unfold cntP;split<;>omega
theorem z1g (t:Tree):(zzp t).length=cntP t:=by unfold zzp;rw [List.length_map,List.length_take,Nat.min_eq_left (cntP_le t)]
theorem zwq (E:CE) (b:Nat) (t:Tree) (w:World) (N:Nd E b t) (hB:Below E.w0.heap.size E.w0 w) (hk:t.op=4→1≤t.kids.length):
 Calls Tryz.prog 145 #[.agg #[.pointer (some ⟨b,0,none⟩)]] w fun e w'=>∃ v,e= .returned v∧w'.ownsRow w.heap.size 97 2 v (zzp t).length (zqr (zzp t))∧Below w.heap.size w w':=by
 have B0:=hid (b1 w (.cells #[.pointer (some ⟨b,0,none⟩)] 25))
 have HB0:=hid (hB.trans ((b1 w (.cells #[.pointer (some ⟨b,0,none⟩)] 25)).mono hB.size))
 have U0:=hid (PtrAt.new w (some ⟨b,0,none⟩))
 have NN:=hid N
 have hm6:t.kids.length≤6000:=by obtain ⟨-,-,-,-,h,-⟩:=N.kid;omega
 have hcl:=cntP_le t
 have hpl:=z1g t
 have HPL:Hid (zzp t=(t.kids.take (cntP t)).map zwo):=rfl
 obtain ⟨i0,hi0,hz0,hz1,hz2⟩:=info_parts fld_info
 have HI0:=hid hi0
 have HZ0:=hid hz0
 have HZ1:=hid hz1
 have HZ2:=hid hz2
 have HKK:=hid hk
 obtain ⟨m,hm⟩:∃ m,cntP t=m:=⟨_,rfl⟩
 rw [hpl,hm]
 rw [hm] at hcl HPL
 have HMM:=hid hm
 clear N hi0 hz0 hz1 hz2 hk hm hpl
 go_enter Tryz.func145,Tryz.ntmps145
 go_wp2_with fail
 generalize w.alloc (.cells #[.pointer (some ⟨b,0,none⟩)] 25)=wa at*
 have u0:=U0.out.c0
 have ul:=U0.out.lt
 refine (ccount_any E b t wa NN.out HB0.out HKK.out).mono ?_
 rintro e w1 ⟨rfl,hb⟩
 have HB1:=hid hb
 clear hb
 rw [HMM.out]
 go_wp2_with fail
 go_loopw [3,7] (fun v i wr=>PRel wa t m v i wr) (fun _ i _=>m - (intOf i).toNat)
 case atStart=>exact ⟨0,Nat.zero_le _,rfl,World.ownsRow_nil _ _ _ _,HB1.out⟩
 case round=>
  obtain ⟨k,hk,rfl,HO,HB⟩:=hrel
  by_cases hlt:k<m
  ·obtain ⟨u,hu⟩:∃ u,t.kids[k]? =some u:=⟨_,List.getElem?_eq_getElem (by omega)⟩
   have HU:=hid hu
   obtain ⟨nb,hn,hkd⟩:=zx8 NN.out HB0.out k u hu
   have N1:=hid hn
   have KD:=hid hkd
   have ur:=zza (Below.refl _ _) u0 ul HB.out
   clear hu hn hkd
   go_wp2_with fail
   refine (KD.out _ HB.out).mono ?_
   rintro e w2 ⟨rfl,hb2⟩
   have B2:=hid (HB.out.trans (hb2.mono HB.out.size))
   have O2:=hid (zkb HO.out hb2)
   clear hb2 KD
   go_wp2_with fail
   refine (cfieldOf_any E nb u w2 N1.out (HB0.out.trans (B2.out.mono HB0.out.size))).mono ?_
   rintro e w3 ⟨rfl,hb3⟩
   have B3:=hid (B2.out.trans (hb3.mono B2.out.size))
   have O3:=hid (zkb O2.out hb3)
   clear hb3
   go_wp2_with (at_builtin;refine Hid.out ?_)
   refine hid ?_
   refine wpList_append_lies _ rfl (.tmp 10) (.tmp 15) _ rfl wa.heap.size 97 i0 _ 2 32 Tryz.underlying41 HI0.out HZ0.out HZ1.out HZ2.out rfl (by omega) u3 k (zqr ((t.kids.take k).map zwo)) rfl (by exact O3.out.alloc _) ⟨w3.heap.size,0,none⟩ 1 1 [.string (nm u),.string (tp u)] rfl rfl (by exact newsF w3 _ _ 97) (by simp [Value.oneCell']) (by omega) (by simp only [maxLen];omega) (by omega) (by simp;have:=B3.out.size;omega) (w3.heap.size+1) (by simp) ?_
   intro g cap w4 hown hg hat hlt4
   have B4:Below wa.heap.size wa w4:=(B3.out.alloc B3.out.size _).grown hg (by simp;have:=B3.out.size;omega) (fun k hk=>(O3.out.lt k hk).1)
   have hown':w4.ownsRow wa.heap.size 97 2 (.slice (some ⟨g,0,none⟩) (k+1) cap) (k+1) (zqr ((t.kids.take (k+1)).map zwo)):=by rw [parts_snoc HU.out,zws];exact hown
   have HOn:=hid hown'
   have HBn:=hid B4
   clear hown hg hat hown' B4
   go_wp2_with fail
   go_roundw
   case rel=>exact ⟨k+1,by omega,by go_num,HOn,HBn⟩
   case measure=>simp [intOf];omega
  ·obtain rfl:k=m:=by omega
   go_wp2_with fail
   go_ret
   refine ⟨_,rfl,?_,B0.out.trans (HB.out.mono B0.out.size)⟩
   rw [HPL.out]
   exact zjj HO.out B0.out.size
theorem csig_any (E:CE) (b:Nat) (t:Tree) (w:World) (N:Nd E b t) (hB:Below E.w0.heap.size E.w0 w) (hk:t.op=4→1≤t.kids.length):
 Calls Tryz.prog 147 #[.agg #[.pointer (some ⟨b,0,none⟩)]] w fun e w'=>∃ v,e= .returned (.agg #[.string (nm t),v,.string (tp t)])∧w'.ownsRow w.heap.size 97 2 v (zzp t).length (zqr (zzp t))∧Below w.heap.size w w':=by
 have B0:=hid (b2 w (.cells #[.pointer (some ⟨b,0,none⟩)] 25) (.cells #[.string ⟨#[]⟩,.slice none 0 0,.string ⟨#[]⟩] 55))
 have HB0:=hid (hB.trans ((b2 w (.cells #[.pointer (some ⟨b,0,none⟩)] 25) (.cells #[.string ⟨#[]⟩,.slice none 0 0,.string ⟨#[]⟩] 55)).mono hB.size))
 have U0:=hid ((PtrAt.new w (some ⟨b,0,none⟩)).below (b1 _ (.cells #[.string ⟨#[]⟩,.slice none 0 0,.string ⟨#[]⟩] 55)))
 have NN:=hid N
 have r0:((w.alloc (.cells #[.pointer (some ⟨b,0,none⟩)] 25)).alloc (.cells #[.string ⟨#[]⟩,.slice none 0 0,.string ⟨#[]⟩] 55)).cell? ⟨w.heap.size+1,0,none⟩=some (.string ⟨#[]⟩):=zxh w _ _ _ _ 0
 have r1:((w.alloc (.cells #[.pointer (some ⟨b,0,none⟩)] 25)).alloc (.cells #[.string ⟨#[]⟩,.slice none 0 0,.string ⟨#[]⟩] 55)).cell? ⟨w.heap.size+1,1,none⟩=some (.slice none 0 0):=zxh w _ _ _ _ 1
 have r2:((w.alloc (.cells #[.pointer (some ⟨b,0,none⟩)] 25)).alloc (.cells #[.string ⟨#[]⟩,.slice none 0 0,.string ⟨#[]⟩] 55)).cell? ⟨w.heap.size+1,2,none⟩=some (.string ⟨#[]⟩):=zxh w _ _ _ _ 2
 have rl:w.heap.size+1<((w.alloc (.cells #[.pointer (some ⟨b,0,none⟩)] 25)).alloc (.cells #[.string ⟨#[]⟩,.slice none 0 0,.string ⟨#[]⟩] 55)).heap.size:=by simp
 have z0:∀ k,((w.alloc (.cells #[.pointer (some ⟨b,0,none⟩)] 25)).alloc (.cells #[.string ⟨#[]⟩,.slice none 0 0,.string ⟨#[]⟩] 55)).frozen? ⟨w.heap.size+1,k,none⟩=false:=by intro k;simp [go_sem]
 have HKK:=hid hk
 clear N hk
 go_enter Tryz.func147,Tryz.ntmps147
 go_wp2_with fail
 generalize (w.alloc (.cells #[.pointer (some ⟨b,0,none⟩)] 25)).alloc (.cells #[.string ⟨#[]⟩,.slice none 0 0,.string ⟨#[]⟩] 55)=wa at*
 have u0:=U0.out.c0
 have ul:=U0.out.lt
 refine rgX (fun w'=>Below wa.heap.size wa w'∧w'.cell? ⟨w.heap.size,0,none⟩=some (.pointer (some ⟨b,0,none⟩))) [7] (by kernel_rfl) (⟨(Below.refl _ _).drew,u0⟩) (fun _ a d v _ h=>And.intro ((zql a d v).symm.trans (And.left h)) (And.right h)) fun hHeld hq=> ?_
 refine tkX 0 ⟨some 3,.load 25 (.tmp 1),25,"declare.go:43",#[],none⟩ (v:= ?v2_0) hq hHeld rfl (by kernel_rfl) ?y2_0 ?_
 case y2_0=>(intro w h;try dsimp only at h);go_simp<;>with_reducible rfl
 try simp only [Act.put,List.setIfInBounds_toArray,List.set_cons_zero,List.set_cons_succ]
 refine tkX 2 ⟨some 5,.load 25 (.tmp 1),25,"declare.go:43",#[],none⟩ (v:= ?v2_2) hq hHeld rfl (by kernel_rfl) ?y2_2 ?_
 case y2_2=>(intro w h;try dsimp only at h);go_simp<;>with_reducible rfl
 try simp only [Act.put,List.setIfInBounds_toArray,List.set_cons_zero,List.set_cons_succ]
 refine tkX 4 ⟨some 7,.load 25 (.tmp 1),25,"declare.go:43",#[],none⟩ (v:= ?v2_4) hq hHeld rfl (by kernel_rfl) ?y2_4 ?_
 case y2_4=>(intro w h;try dsimp only at h);go_simp<;>with_reducible rfl
 try simp only [Act.put,List.setIfInBounds_toArray,List.set_cons_zero,List.set_cons_succ]
 refine clX 1 ⟨some 4,.call ⟨.value (.func 42),#[.tmp 3],#[25]⟩,9,"declare.go:43",#[⟨0,.data⟩],none⟩ rfl (by kernel_rfl) (by kernel_rfl) fun Kc hK=> ?_
 go_simp
 refine (zqx NN.out HB0.out _ hHeld.1).mono ?_
 rintro e w1 ⟨rfl,hb⟩
 have hHeld:=And.intro (hHeld.1.trans (hb.mono hHeld.1.size)) (zza hHeld.1 hHeld.2 ul hb)
 refine hK.out _ _ (fun _ _=>hHeld) ?_
 clear hb
 clear hK Kc
 try simp only [Act.put,List.setIfInBounds_toArray,List.set_cons_zero,List.set_cons_succ]
 refine clX 3 ⟨some 6,.call ⟨.value (.func 145),#[.tmp 5],#[25]⟩,41,"declare.go:43",#[⟨2,.data⟩,⟨1,.chain⟩],none⟩ rfl (by kernel_rfl) (by kernel_rfl) fun Kc hK=> ?_
 go_simp
 refine (zwq E b t _ NN.out (HB0.out.trans (hHeld.1.mono HB0.out.size)) HKK.out).mono ?_
 rintro e w2 ⟨pv,rfl,hpo,hb⟩
 have OP:=hid (zjj hpo hHeld.1.size)
 obtain ⟨PA,pc,rfl,-⟩:=zv3 hpo
 have hHeld:=And.intro (hHeld.1.trans (hb.mono hHeld.1.size)) (zza hHeld.1 hHeld.2 ul hb)
 refine hK.out _ _ (fun _ _=>hHeld) ?_
 clear hb hpo
 clear hK Kc
 try simp only [Act.put,List.setIfInBounds_toArray,List.set_cons_zero,List.set_cons_succ]
 refine clX 5 ⟨some 8,.call ⟨.value (.func 43),#[.tmp 7],#[25]⟩,9,"declare.go:43",#[⟨4,.data⟩,⟨3,.chain⟩],none⟩ rfl (by kernel_rfl) (by kernel_rfl) fun Kc hK=> ?_
 go_simp
 refine (z02 NN.out HB0.out _ hHeld.1).mono ?_
 rintro e w1 ⟨rfl,hb⟩
 have OP:=hid (zkb OP.out hb)
 have bb:=hHeld.1.trans (hb.mono hHeld.1.size)
 have r0:=zza (Below.refl _ _) r0 rl bb
 have r1:=zza (Below.refl _ _) r1 rl bb
 have r2:=zza (Below.refl _ _) r2 rl bb
 have q0:=(bb.frozen (p:=⟨w.heap.size+1,0,none⟩) rl).trans (z0 0)
 have q1:=(bb.frozen (p:=⟨w.heap.size+1,1,none⟩) rl).trans (z0 1)
 have q2:=(bb.frozen (p:=⟨w.heap.size+1,2,none⟩) rl).trans (z0 2)
 clear bb
 have hHeld:=And.intro (hHeld.1.trans (hb.mono hHeld.1.size)) (zza hHeld.1 hHeld.2 ul hb)
 refine hK.out _ _ (fun _ _=>hHeld) ?_
 clear hb
 clear hK Kc
 try simp only [Act.put,List.setIfInBounds_toArray,List.set_cons_zero,List.set_cons_succ]
 refine twX 6 ⟨some 9,.build 55 #[(0,.tmp 4),(1,.tmp 6),(2,.tmp 8)],55,"declare.go:43",#[⟨1,.data⟩,⟨3,.data⟩,⟨5,.data⟩],none⟩ (v:= ?v2_6) hq rfl (by kernel_rfl) ?y2_6 ?_
 case y2_6=>intro w;go_simp<;>with_reducible rfl
 try simp only [Act.put,List.setIfInBounds_toArray,List.set_cons_zero,List.set_cons_succ]
 refine clX 7 ⟨none,.store 55 (.tmp 2) (.tmp 9),0,"declare.go:43",#[⟨6,.data⟩,⟨5,.chain⟩,⟨0,.phase⟩,⟨1,.phase⟩,⟨2,.phase⟩,⟨3,.phase⟩,⟨4,.phase⟩,⟨5,.phase⟩,⟨6,.phase⟩],none⟩ rfl (by kernel_rfl) (by kernel_rfl) fun Kc hK=> ?_
 go_simp
 refine hK.out _ _ (fun h=>absurd h (by decide)) ?_
 clear hK Kc
 try simp only [Act.put,List.setIfInBounds_toArray,List.set_cons_zero,List.set_cons_succ]
 refine dnX (by kernel_rfl) ?_ _
 have BF:Hid (Below w.heap.size w (((w1.setCell ⟨w.heap.size+1,0,none⟩ (.string (nm t))).setCell ⟨w.heap.size+1,1,none⟩ (.slice PA (zzp t).length pc)).setCell ⟨w.heap.size+1,2,none⟩ (.string (tp t)))):=(((B0.out.trans (hHeld.1.mono B0.out.size)).setCell (p:=⟨w.heap.size+1,0,none⟩) (Nat.le_succ _) _).setCell (p:=⟨w.heap.size+1,1,none⟩) (Nat.le_succ _) _).setCell (p:=⟨w.heap.size+1,2,none⟩) (Nat.le_succ _) _
 have hne:(Value.slice PA (zzp t).length pc).ownBlock≠some (w.heap.size+1):=fun e=>by have:=(OP.out.lt _ e).1;omega
 have OF:Hid ((((w1.setCell ⟨w.heap.size+1,0,none⟩ (.string (nm t))).setCell ⟨w.heap.size+1,1,none⟩ (.slice PA (zzp t).length pc)).setCell ⟨w.heap.size+1,2,none⟩ (.string (tp t))).ownsRow wa.heap.size 97 2 (.slice PA (zzp t).length pc) (zzp t).length (zqr (zzp t))):=own_set (own_set (own_set OP.out hne) hne) hne
 have bsz:=B0.out.size
 go_wp2_with fail
 refine bodyPost_ret (v:= .agg #[.string (nm t),.slice PA (zzp t).length pc,.string (tp t)]) (by simp [results,Tryz.results147,go_sem,r0,r1,r2]) rfl ?_
 exact ⟨_,rfl,zjj OF.out bsz,BF.out⟩
theorem z0o {w:World} {b b' s s' n n':Nat} {e e':TypeId} {v v':Value} {xs xs':List Value} (h:w.ownsRow b e s v n xs) (h':w.ownsRow b' e' s' v' n' xs') (he:e≠e'):v.ownBlock=none∨v.ownBlock≠v'.ownBlock:=by
 cases hv:v.ownBlock with
 |none=>exact .inl rfl
 |some g=>
  refine .inr fun hv'=> ?_
  obtain ⟨c,z,h1⟩:=Lib.ownsRow_kind h g hv
  obtain ⟨c',z',h2⟩:=Lib.ownsRow_kind h' g hv'.symm
  rw [h1] at h2
  have:=Option.some.inj h2
  injection this with a1 a2
  exact he a2
def z1u:List Str→List Value→List Value
 |s::ss,u::us=> .string s.name::u::z1u ss us
 |_,_=> []
def z06:List Sg→List Value→List Value
 |s::ss,u::us=> .string s.name::u:: .string s.res::z06 ss us
 |_,_=> []
theorem cellsS_snoc:∀ (ss:List Str) (us:List Value) (s:Str) (u:Value),us.length=ss.length→z1u (ss++ [s]) (us++ [u])=z1u ss us++ [.string s.name,u]
 | [],[],s,u,_=>rfl
 | [],v::us,s,u,h=>by simp at h
 |a::ss,[],s,u,h=>by simp at h
 |a::ss,v::us,s,u,h=>by simp only [List.cons_append,z1u,cellsS_snoc ss us s u (by simpa using h)]
theorem cellsG_snoc:∀ (ss:List Sg) (us:List Value) (s:Sg) (u:Value),us.length=ss.length→z06 (ss++ [s]) (us++ [u])=z06 ss us++ [.string s.name,u,.string s.res]
 | [],[],s,u,_=>rfl
 | [],v::us,s,u,h=>by simp at h
 |a::ss,[],s,u,h=>by simp at h
 |a::ss,v::us,s,u,h=>by simp only [List.cons_append,z06,cellsG_snoc ss us s u (by simpa using h)]
theorem cellsS_at:∀ (ss:List Str) (us:List Value) (i:Nat) (s:Str) (u:Value),ss[i]? =some s→us[i]? =some u→(z1u ss us)[i*2]? =some (.string s.name)∧(z1u ss us)[i*2+1]? =some u
 | [],us,i,s,u,h,_=>by simp at h
 |a::ss,[],i,s,u,_,h=>by simp at h
 |a::ss,v::us,0,s,u,h,h'=>by obtain rfl:=Option.some.inj h;obtain rfl:=Option.some.inj h';exact ⟨rfl,rfl⟩
 |a::ss,v::us,i+1,s,u,h,h'=>by
  have:=cellsS_at ss us i s u h h'
  rw [show (i+1)*2=i*2+1+1 by omega]
  simp only [z1u,List.getElem?_cons_succ]
  exact this
theorem cellsG_at:∀ (ss:List Sg) (us:List Value) (i:Nat) (s:Sg) (u:Value),ss[i]? =some s→us[i]? =some u→(z06 ss us)[i*3]? =some (.string s.name)∧(z06 ss us)[i*3+1]? =some u∧(z06 ss us)[i*3+2]? =some (.string s.res)
 | [],us,i,s,u,h,_=>by simp at h
 |a::ss,[],i,s,u,_,h=>by simp at h
 |a::ss,v::us,0,s,u,h,h'=>by obtain rfl:=Option.some.inj h;obtain rfl:=Option.some.inj h';exact ⟨rfl,rfl,rfl⟩
 |a::ss,v::us,i+1,s,u,h,h'=>by
  have:=cellsG_at ss us i s u h h'
  rw [show (i+1)*3=i*3+1+1+1 by omega]
  simp only [z06,List.getElem?_cons_succ]
  exact this
def Nst (w:World) (base:Nat) (gv u:Value) (fs:List Fld):Prop:=w.ownsRow base 97 2 u fs.length (zqr fs)∧(∀ g,u.ownBlock=some g→gv.ownBlock≠some g)∧fs.length≤6000
structure DR (w:World) (base:Nat) (sv gv fv:Value) (x:Inf) (vs us:List Value):Prop where
 s:w.ownsRow base 99 2 sv x.structs.length (z1u x.structs vs)
 g:w.ownsRow base 97 2 gv x.globals.length (zqr x.globals)
 f:w.ownsRow base 55 3 fv x.funs.length (z06 x.funs us)
 sl:vs.length=x.structs.length
 fl:us.length=x.funs.length
 sn:∀ (i:Nat) (s:Str) (u:Value),x.structs[i]? =some s→vs[i]? =some u→Nst w base gv u s.fields
 fn:∀ (i:Nat) (s:Sg) (u:Value),x.funs[i]? =some s→us[i]? =some u→Nst w base gv u s.params
section
variable {w w':World} {base:Nat} {sv gv fv:Value} {x:Inf} {vs us:List Value}
theorem DR.nil (w:World) (base:Nat):DR w base (.slice none 0 0) (.slice none 0 0) (.slice none 0 0) infZ [] []:=
 ⟨World.ownsRow_nil _ _ _ _,World.ownsRow_nil _ _ _ _,World.ownsRow_nil _ _ _ _,rfl,rfl,fun i s u h=>by simp [infZ] at h,fun i s u h=>by simp [infZ] at h⟩
theorem DR.keep (h:DR w base sv gv fv x vs us) {row:Option Nat} (hg:w.grownBy w' row) (hr:∀ b,row=some b→b<base):DR w' base sv gv fv x vs us:=by
 have far:∀ {e:TypeId} {s n:Nat} {v:Value} {xs:List Value},w.ownsRow base e s v n xs→w'.ownsRow base e s v n xs:=fun {e s n v xs} ho=>ho.kept hg (by
  cases hv:v.ownBlock with
  |none=>exact .inl rfl
  |some g=>exact .inr (fun e=>by have h1:=hr g e.symm;have h2:=(ho.lt g hv).1;omega))
 exact ⟨far h.s,far h.g,far h.f,h.sl,h.fl,fun i s u a b=>⟨far (h.sn i s u a b).1,(h.sn i s u a b).2⟩,fun i s u a b=>⟨far (h.fn i s u a b).1,(h.fn i s u a b).2⟩⟩
theorem DR.below (h:DR w base sv gv fv x vs us) (hb:Below w.heap.size w w'):DR w' base sv gv fv x vs us:=
 h.keep (row:=none) ⟨hb.os,hb.tape,hb.output,hb.size,fun k hk _=>hb.block k hk⟩ (fun b e=>by cases e)
theorem DR.pushS (h:DR w base sv gv fv x vs us) (hg:w.grownBy w' sv.ownBlock) {sv':Value} {s:Str} {u:Value} (ho:w'.ownsRow base 99 2 sv' (x.structs.length+1) (z1u x.structs vs++ [.string s.name,u])) (hn:Nst w base gv u s.fields):DR w' base sv' gv fv { x with structs:=x.structs++ [s] } (vs++ [u]) us:=by
 have nst:∀ {u:Value} {fs:List Fld},Nst w base gv u fs→Nst w' base gv u fs:=fun {u fs} hu=>⟨hu.1.kept hg (z0o hu.1 h.s (by decide)),hu.2⟩
 refine ⟨?_,h.g.kept hg (z0o h.g h.s (by decide)),h.f.kept hg (z0o h.f h.s (by decide)),by simp [h.sl],h.fl,fun i s' u' a b=> ?_,fun i s' u' a b=>nst (h.fn i s' u' a b)⟩
 ·show w'.ownsRow base 99 2 sv' (x.structs++ [s]).length _
  rw [cellsS_snoc _ _ _ _ h.sl,List.length_append];exact ho
 ·simp only at a
  rcases Nat.lt_or_ge i x.structs.length with hi|hi
  ·rw [List.getElem?_append_left hi] at a
   rw [List.getElem?_append_left (by rw [h.sl];exact hi)] at b
   exact nst (h.sn i s' u' a b)
  ·have hi2:=(List.getElem?_eq_some_iff.1 a).1
   rw [List.length_append] at hi2
   obtain rfl:i=x.structs.length:=by simp at hi2;omega
   rw [List.getElem?_append_right (Nat.le_refl _)] at a
   rw [List.getElem?_append_right (by rw [h.sl];exact Nat.le_refl _)] at b
   simp [h.sl] at a b
   obtain rfl:=a
   obtain rfl:=b
   exact nst hn
theorem DR.pushF (h:DR w base sv gv fv x vs us) (hg:w.grownBy w' fv.ownBlock) {fv':Value} {s:Sg} {u:Value} (ho:w'.ownsRow base 55 3 fv' (x.funs.length+1) (z06 x.funs us++ [.string s.name,u,.string s.res])) (hn:Nst w base gv u s.params):DR w' base sv gv fv' { x with funs:=x.funs++ [s] } vs (us++ [u]):=by
 have nst:∀ {u:Value} {fs:List Fld},Nst w base gv u fs→Nst w' base gv u fs:=fun {u fs} hu=>⟨hu.1.kept hg (z0o hu.1 h.f (by decide)),hu.2⟩
 refine ⟨h.s.kept hg (z0o h.s h.f (by decide)),h.g.kept hg (z0o h.g h.f (by decide)),?_,h.sl,by simp [h.fl],fun i s' u' a b=>nst (h.sn i s' u' a b),fun i s' u' a b=> ?_⟩
 ·show w'.ownsRow base 55 3 fv' (x.funs++ [s]).length _
  rw [cellsG_snoc _ _ _ _ h.fl,List.length_append];exact ho
 ·simp only at a
  rcases Nat.lt_or_ge i x.funs.length with hi|hi
  ·rw [List.getElem?_append_left hi] at a
   rw [List.getElem?_append_left (by rw [h.fl];exact hi)] at b
   exact nst (h.fn i s' u' a b)
  ·have hi2:=(List.getElem?_eq_some_iff.1 a).1
   rw [List.length_append] at hi2
   obtain rfl:i=x.funs.length:=by simp at hi2;omega
   rw [List.getElem?_append_right (Nat.le_refl _)] at a
   rw [List.getElem?_append_right (by rw [h.fl];exact Nat.le_refl _)] at b
   simp [h.fl] at a b
   obtain rfl:=a
   obtain rfl:=b
   exact nst hn
theorem DR.pushG (h:DR w base sv gv fv x vs us) (hg:w.grownBy w' gv.ownBlock) {gv':Value} {s:Fld} (ho:w'.ownsRow base 97 2 gv' (x.globals.length+1) (zqr x.globals++ [.string s.name,.string s.typ])) (hat:∀ g,gv'.ownBlock=some g→gv.ownBlock=some g∨w.heap.size≤g):DR w' base sv gv' fv { x with globals:=x.globals++ [s] } vs us:=by
 have nst:∀ {u:Value} {fs:List Fld},Nst w base gv u fs→Nst w' base gv' u fs:=fun {u fs} hu=>⟨hu.1.kept hg (by
  cases hv:u.ownBlock with
  |none=>exact .inl rfl
  |some g=>exact .inr (fun e=>hu.2.1 g hv e.symm)),fun g hv e=>(by
  rcases hat g e with h1|h1
  ·exact hu.2.1 g hv h1
  ·have:=(hu.1.lt g hv).2;omega),hu.2.2⟩
 refine ⟨h.s.kept hg (z0o h.s h.g (by decide)),?_,h.f.kept hg (z0o h.f h.g (by decide)),h.sl,h.fl,fun i s' u' a b=>nst (h.sn i s' u' a b),fun i s' u' a b=>nst (h.fn i s' u' a b)⟩
 show w'.ownsRow base 97 2 gv' (x.globals++ [s]).length _
 rw [zws,List.length_append];exact ho
theorem DR.out (h:DR w base sv gv fv x vs us):∃ sA gA fA sc gc fc,sv= .slice sA x.structs.length sc∧gv= .slice gA x.globals.length gc∧fv= .slice fA x.funs.length fc∧SR w sA x.structs∧FR w gA x.globals∧GR w fA x.funs∧x.structs.length≤sc∧x.globals.length≤gc∧x.funs.length≤fc:=by
 obtain ⟨gA,gc,rfl,hgc,hgr⟩:=zv3 h.g
 have hs:∃ sA sc,sv= .slice sA x.structs.length sc∧SR w sA x.structs∧x.structs.length≤sc:=by
  rcases h.s.2 with ⟨rfl,h0⟩|⟨g,cap,cur,rfl,hb,hg,hn,-⟩
  ·exact ⟨none,0,by rw [h0],fun h=>by omega,by omega⟩
  ·refine ⟨_,cap,rfl,fun hp=>⟨g,0,rfl,(h.s.lt g rfl).2,fun i s hi=> ?_⟩,hn⟩
   have hil:=(List.getElem?_eq_some_iff.1 hi).1
   obtain ⟨u,hu⟩:∃ u,vs[i]? =some u:=⟨_,List.getElem?_eq_getElem (by rw [h.sl];exact hil)⟩
   obtain ⟨A,c,rfl,hc,hf⟩:=zv3 (h.sn i s u hi hu).1
   have hcell:=cellsS_at _ _ i s _ hi hu
   refine ⟨A,c,?_,?_,hc,by have:=(h.sn i s _ hi hu).2.2;omega,hf⟩
   ·rw [Nat.zero_add];exact (h.s.cellAt (i*2) (by omega)).trans hcell.1
   ·rw [Nat.zero_add];exact (h.s.cellAt (i*2+1) (by omega)).trans hcell.2
 have hf:∃ fA fc,fv= .slice fA x.funs.length fc∧GR w fA x.funs∧x.funs.length≤fc:=by
  rcases h.f.2 with ⟨rfl,h0⟩|⟨g,cap,cur,rfl,hb,hg,hn,-⟩
  ·exact ⟨none,0,by rw [h0],fun h=>by omega,by omega⟩
  ·refine ⟨_,cap,rfl,fun hp=>⟨g,0,rfl,(h.f.lt g rfl).2,fun i s hi=> ?_⟩,hn⟩
   have hil:=(List.getElem?_eq_some_iff.1 hi).1
   obtain ⟨u,hu⟩:∃ u,us[i]? =some u:=⟨_,List.getElem?_eq_getElem (by rw [h.fl];exact hil)⟩
   obtain ⟨A,c,rfl,hc,hf⟩:=zv3 (h.fn i s u hi hu).1
   have hcell:=cellsG_at _ _ i s _ hi hu
   refine ⟨A,c,?_,?_,?_,hc,by have:=(h.fn i s _ hi hu).2.2;omega,hf⟩
   ·rw [Nat.zero_add];exact (h.f.cellAt (i*3) (by omega)).trans hcell.1
   ·rw [Nat.zero_add];exact (h.f.cellAt (i*3+1) (by omega)).trans hcell.2.1
   ·rw [Nat.zero_add];exact (h.f.cellAt (i*3+2) (by omega)).trans hcell.2.2
 obtain ⟨sA,sc,rfl,s1,s2⟩:=hs
 obtain ⟨fA,fc,rfl,f1,f2⟩:=hf
 exact ⟨sA,gA,fA,sc,gc,fc,rfl,rfl,rfl,s1,hgr,f1,s2,hgc,f2⟩
end
theorem zvj {ks:List Tree} {k:Nat} {d:Tree} (h:ks[k]? =some d):zxo (ks.take (k+1))=addD (zxo (ks.take k)) d:=by
 unfold zxo;rw [List.take_add_one,h];simp
theorem addD_len (x:Inf) (d:Tree) (n:Nat) (h:x.structs.length≤n∧x.globals.length≤n∧x.funs.length≤n):(addD x d).structs.length≤n+1∧(addD x d).globals.length≤n+1∧(addD x d).funs.length≤n+1:=by
 unfold addD
 split
 ·simp;omega
 split
 ·simp;omega
 split
 ·simp;omega
 ·omega
theorem infOf_len (ks:List Tree):∀ k,k≤ks.length→(zxo (ks.take k)).structs.length≤k∧(zxo (ks.take k)).globals.length≤k∧(zxo (ks.take k)).funs.length≤k:=by
 intro k
 induction k with
 |zero=>intro _;simp [zxo,infZ]
 |succ k ih=>
  intro hk
  rw [zvj (List.getElem?_eq_getElem (by omega:k<ks.length))]
  exact addD_len _ _ _ (ih (by omega))
theorem s99_info:(Tryz.prog.info? 99).map (fun i=>(i.zero,i.size,i.bytes))=some (some (.agg #[.string ⟨#[]⟩,.slice none 0 0]),2,40):=by kernel_rfl
theorem s55_info:(Tryz.prog.info? 55).map (fun i=>(i.zero,i.size,i.bytes))=some (some (.agg #[.string ⟨#[]⟩,.slice none 0 0,.string ⟨#[]⟩]),3,56):=by kernel_rfl
theorem newsG (w:World) (a b c:Value) (e:TypeId):∀ j u,[a,b,c][j]? =some u→(w.alloc (.cells #[a,b,c] e)).cell? ((⟨w.heap.size,0,none⟩:Addr).add j)=some u:=by
 intro j u h
 match j,h with
 |0,h=>obtain rfl:=Option.some.inj h;exact zxa w _ e 0
 |1,h=>obtain rfl:=Option.some.inj h;exact zxa w _ e 1
 |2,h=>obtain rfl:=Option.some.inj h;exact zxa w _ e 2
 |j+3,h=>simp at h
structure DV (b:Nat) (w:World) (sv gv fv:Value) (x:Inf) (vs us:List Value) (wr:World):Prop where
 B:Below w.heap.size w wr
 sz:w.heap.size+3≤wr.heap.size
 u0:wr.cell? ⟨w.heap.size,0,none⟩=some (.pointer (some ⟨b,0,none⟩))
 r:∀ k,k<3→wr.cell? ⟨w.heap.size+1,k,none⟩=some (.slice none 0 0)
 rf:∀ k,wr.frozen? ⟨w.heap.size+1,k,none⟩=false
 v0:wr.cell? ⟨w.heap.size+2,0,none⟩=some sv
 v1:wr.cell? ⟨w.heap.size+2,1,none⟩=some gv
 v2:wr.cell? ⟨w.heap.size+2,2,none⟩=some fv
 vf:∀ k,wr.frozen? ⟨w.heap.size+2,k,none⟩=false
 D:DR wr (w.heap.size+3) sv gv fv x vs us
section
variable {b:Nat} {w wr w1:World} {sv gv fv:Value} {x:Inf} {vs us:List Value}
theorem DV.grow (h:DV b w sv gv fv x vs us wr) {row:Option Nat} (hg:wr.grownBy w1 row) (hr:∀ y,row=some y→w.heap.size+3≤y) {sv' gv' fv':Value} {x':Inf} {vs' us':List Value} (hD:DR w1 (w.heap.size+3) sv' gv' fv' x' vs' us') (i:Nat) (nv:Value)
 (h0:sv'=if i=0 then nv else sv) (h1:gv'=if i=1 then nv else gv) (h2:fv'=if i=2 then nv else fv) (hi:i<3):DV b w sv' gv' fv' x' vs' us' (w1.setCell ⟨w.heap.size+2,i,none⟩ nv):=by
 have hsz:=h.sz
 have far:∀ y k,y<w.heap.size+3→w1.cell? ⟨y,k,none⟩=wr.cell? ⟨y,k,none⟩:=fun y k hy=>hg.cell_far ⟨y,k,none⟩ (by show y<_;omega) (fun e=>by have:=hr y e.symm;omega)
 have farF:∀ y k,y<w.heap.size+3→w1.frozen? ⟨y,k,none⟩=wr.frozen? ⟨y,k,none⟩:=fun y k hy=>hg.frozen_far ⟨y,k,none⟩ (by show y<_;omega) (fun e=>by have:=hr y e.symm;omega)
 have oth:∀ y k,y≠w.heap.size+2∨k≠i→(w1.setCell ⟨w.heap.size+2,i,none⟩ nv).cell? ⟨y,k,none⟩=w1.cell? ⟨y,k,none⟩:=fun y k hy=>World.cell?_setCell_other _ _ _ _ (by
  intro e;injection e with e1 e2
  rcases hy with h|h
  ·exact h e1.symm
  ·exact h e2.symm)
 have same:∀ y,wr.cell? ⟨w.heap.size+2,i,none⟩=some y→(w1.setCell ⟨w.heap.size+2,i,none⟩ nv).cell? ⟨w.heap.size+2,i,none⟩=some nv:=fun y hy=>World.cell?_setCell_same _ _ _ ((far _ _ (by omega)).trans hy)
 refine ⟨⟨hg.os.trans h.B.os,hg.tape.trans h.B.tape,hg.output.trans h.B.output,Nat.le_trans h.B.size (Nat.le_trans hg.size (zxf w1 _ _).size),fun k hk=> ?_⟩,Nat.le_trans hsz (Nat.le_trans hg.size (zxf w1 _ _).size),?_,?_,?_,?_,?_,?_,?_,hD.keep (zxf w1 _ _) (fun y e=>by have h9:w.heap.size+2=y:=Option.some.inj e;omega)⟩
 ·exact ((zxf w1 ⟨w.heap.size+2,i,none⟩ nv).block k (by have:=hg.size;omega) (fun e=>by have h9:k=w.heap.size+2:=Option.some.inj e;omega)).trans ((hg.block k (by omega) (fun e=>by have:=hr k e.symm;omega)).trans (h.B.block k hk))
 ·rw [oth _ _ (.inl (by omega)),far _ _ (by omega)];exact h.u0
 ·intro k hk;rw [oth _ _ (.inl (by omega)),far _ _ (by omega)];exact h.r k hk
 ·intro k;rw [World.frozen?_setCell,farF _ _ (by omega)];exact h.rf k
 ·by_cases hi0:i=0
  ·subst hi0;rw [h0,if_pos rfl];exact same _ h.v0
  ·rw [h0,if_neg hi0,oth _ _ (.inr (fun e=>hi0 e.symm)),far _ _ (by omega)];exact h.v0
 ·by_cases hi0:i=1
  ·subst hi0;rw [h1,if_pos rfl];exact same _ h.v1
  ·rw [h1,if_neg hi0,oth _ _ (.inr (fun e=>hi0 e.symm)),far _ _ (by omega)];exact h.v1
 ·by_cases hi0:i=2
  ·subst hi0;rw [h2,if_pos rfl];exact same _ h.v2
  ·rw [h2,if_neg hi0,oth _ _ (.inr (fun e=>hi0 e.symm)),far _ _ (by omega)];exact h.v2
 ·intro k;rw [World.frozen?_setCell,farF _ _ (by omega)];exact h.vf k
theorem DV.below (h:DV b w sv gv fv x vs us wr) (hb:Below wr.heap.size wr w1):DV b w sv gv fv x vs us w1:=by
 have hsz:=h.sz
 have c:∀ y k,y<w.heap.size+3→w1.cell? ⟨y,k,none⟩=wr.cell? ⟨y,k,none⟩:=fun y k hy=>hb.cell (p:=⟨y,k,none⟩) (by show y<_;omega)
 have z:∀ y k,y<w.heap.size+3→w1.frozen? ⟨y,k,none⟩=wr.frozen? ⟨y,k,none⟩:=fun y k hy=>hb.frozen (p:=⟨y,k,none⟩) (by show y<_;omega)
 exact ⟨h.B.trans (hb.mono h.B.size),Nat.le_trans hsz hb.size,(c _ _ (by omega)).trans h.u0,fun k hk=>(c _ _ (by omega)).trans (h.r k hk),fun k=>(z _ _ (by omega)).trans (h.rf k),(c _ _ (by omega)).trans h.v0,(c _ _ (by omega)).trans h.v1,(c _ _ (by omega)).trans h.v2,fun k=>(z _ _ (by omega)).trans (h.vf k),h.D.below hb⟩
end
def VRel (b:Nat) (w:World) (t:Tree) (m:Nat) (i:Value) (wr:World):Prop:=
 ∃ (k:Nat) (sv gv fv:Value) (vs us:List Value),k≤m∧i= .int .i64 k∧Hid (DV b w sv gv fv (zxo (t.kids.take k)) vs us wr)
theorem DV.start (b:Nat) (w:World):DV b w (.slice none 0 0) (.slice none 0 0) (.slice none 0 0) infZ [] [] (((w.alloc (.cells #[.pointer (some ⟨b,0,none⟩)] 25)).alloc (.cells #[.slice none 0 0,.slice none 0 0,.slice none 0 0] 44)).alloc (.cells #[.slice none 0 0,.slice none 0 0,.slice none 0 0] 44)):=by
 refine ⟨((b2 w _ _).trans ((b1 _ _).mono (by simp;omega))),by simp,?_,?_,?_,?_,?_,?_,?_,DR.nil _ _⟩
 ·simp [go_sem]
 ·intro k hk
  match k,hk with
  |0,_=>simp [go_sem]
  |1,_=>simp [go_sem]
  |2,_=>simp [go_sem]
 ·intro k;simp [go_sem]
 ·simp [go_sem]
 ·simp [go_sem]
 ·simp [go_sem]
 ·intro k;simp [go_sem]
theorem cdeclared_any (E:CE) (b:Nat) (t:Tree) (w:World) (N:Nd E b t) (hB:Below E.w0.heap.size E.w0 w) (hk:∀ (k:Nat) (d:Tree),t.kids[k]? =some d→d.op=4→1≤d.kids.length):
 Calls Tryz.prog 107 #[.agg #[.pointer (some ⟨b,0,none⟩)]] w fun e w'=>∃ sv gv fv vs us,e= .returned (.agg #[sv,gv,fv])∧DR w' (w.heap.size+3) sv gv fv (zxo t.kids) vs us∧Below w.heap.size w w':=by
 have HB:=hid hB
 have NN:=hid N
 have D0:=hid (DV.start b w)
 have HKK:=hid hk
 obtain ⟨m,hm⟩:∃ m,t.kids.length=m:=⟨_,rfl⟩
 have HM:=hid hm
 have hm6:m≤6000:=by obtain ⟨-,-,-,-,h,-⟩:=N.kid;omega
 clear N hk hm
 go_enter Tryz.func107,Tryz.ntmps107
 have u0:=D0.out.u0
 go_wp2_with fail
 generalize ((w.alloc (.cells #[.pointer (some ⟨b,0,none⟩)] 25)).alloc (.cells #[.slice none 0 0,.slice none 0 0,.slice none 0 0] 44)).alloc (.cells #[.slice none 0 0,.slice none 0 0,.slice none 0 0] 44)=wa at*
 refine (zk4 NN.out HB.out _ D0.out.B).mono ?_
 rintro e w1 ⟨rfl,hb⟩
 have D1:=hid (D0.out.below hb)
 rw [HM.out]
 clear hb u0 D0
 go_wp2_with fail
 go_loopw [8] (fun i wr=>VRel b w t m i wr) (fun i _=>m - (intOf i).toNat)
 case atStart=>exact ⟨0,_,_,_,_,_,Nat.zero_le _,rfl,D1⟩
 case round=>
  obtain ⟨k,sv,gv,fv,vs,us,hk,rfl,DR0⟩:=hrel
  by_cases hlt:k<m
  ·obtain ⟨d,hu⟩:∃ u,t.kids[k]? =some u:=⟨_,List.getElem?_eq_getElem (by have:=HM.out;omega)⟩
   have HU:=hid hu
   have HK4:=hid (HKK.out k d hu)
   obtain ⟨nb,hn,hkd⟩:=zx8 NN.out HB.out k d hu
   have N1:=hid hn
   have hd6:d.kids.length≤6000:=by obtain ⟨-,-,-,-,h,-⟩:=hn.kid;omega
   have KD:=hid hkd
   have hxl:=infOf_len t.kids k (by have:=HM.out;omega)
   obtain ⟨X,hX⟩:∃ X,zxo (t.kids.take k)=X:=⟨_,rfl⟩
   have HX:=hid hX
   rw [hX] at DR0 hxl
   obtain ⟨xl1,xl2,xl3⟩:=hxl
   have u0:=DR0.out.u0
   clear hu hn hkd hX
   go_wp2_with fail
   refine (KD.out _ DR0.out.B).mono ?_
   rintro e w2 ⟨rfl,hb⟩
   have DK0:=hid (DR0.out.below hb)
   have KC:=hid (PtrAt.new w2 (some ⟨nb,0,none⟩))
   have DKa:=hid (DK0.out.below (b1 w2 (.cells #[.pointer (some ⟨nb,0,none⟩)] 25)))
   clear hb u0 KD
   have kca:=KC.out.c0
   go_wp2_with fail
   generalize w2.alloc (.cells #[.pointer (some ⟨nb,0,none⟩)] 25)=wj at*
   refine (zqf N1.out HB.out _ DKa.out.B).mono ?_
   rintro e wk ⟨rfl,hb⟩
   have DK:=hid (DKa.out.below hb)
   have kc0:=zza (Below.refl _ _) kca KC.out.lt hb
   have kl:w2.heap.size<wk.heap.size:=Nat.lt_of_lt_of_le KC.out.lt hb.size
   have BW:=hid DK.out.B
   have BK:=hid (HB.out.trans (DK.out.B.mono HB.out.size))
   have v00:=DK.out.v0
   have v10:=DK.out.v1
   have v20:=DK.out.v2
   have vl:w.heap.size+2<wk.heap.size:=by have:=DK.out.sz;omega
   clear hb kca DKa KC DR0
   have hop:d.op=2∨d.op=3∨d.op=4∨(¬ d.op=2∧¬ d.op=3∧¬ d.op=4):=by omega
   rcases hop with ho|ho|ho|ho
   ·rw [ho]
    obtain ⟨i0,hi0,hz0,hz1,hz2⟩:=info_parts s99_info
    have HI0:=hid hi0
    have HZ0:=hid hz0
    have HZ1:=hid hz1
    have HZ2:=hid hz2
    clear hi0 hz0 hz1 hz2
    go_wp2_with fail
    refine rgX (fun w'=>Below w.heap.size w w'∧w'.cell? ⟨w2.heap.size,0,none⟩=some (.pointer (some ⟨nb,0,none⟩))∧w'.cell? ⟨w.heap.size+2,0,none⟩=some sv) [10] (by kernel_rfl) (⟨BW.out.drew,kc0,v00⟩) (fun _ a d v _ h=>And.intro ((zql a d v).symm.trans (And.left h)) (And.right h)) fun hHeld hq=> ?_
    refine twX 0 ⟨some 18,.fieldAddr 44 (.tmp 3) 0,0,"declare.go:32",#[],none⟩ (v:= ?v1_0) hq rfl (by kernel_rfl) ?y1_0 ?_
    case y1_0=>intro w;go_simp<;>with_reducible rfl
    try simp only [Act.put,List.setIfInBounds_toArray,List.set_cons_zero,List.set_cons_succ]
    refine tkX 1 ⟨some 19,.load 40 (.tmp 18),40,"declare.go:32",#[⟨0,.data⟩],none⟩ (v:= ?v1_1) hq hHeld rfl (by kernel_rfl) ?y1_1 ?_
    case y1_1=>(intro w h;try dsimp only at h);go_simp<;>with_reducible rfl
    try simp only [Act.put,List.setIfInBounds_toArray,List.set_cons_zero,List.set_cons_succ]
    refine tkX 2 ⟨some 20,.load 25 (.tmp 5),25,"declare.go:32",#[],none⟩ (v:= ?v1_2) hq hHeld rfl (by kernel_rfl) ?y1_2 ?_
    case y1_2=>(intro w h;try dsimp only at h);go_simp<;>with_reducible rfl
    try simp only [Act.put,List.setIfInBounds_toArray,List.set_cons_zero,List.set_cons_succ]
    refine tkX 4 ⟨some 22,.load 25 (.tmp 5),25,"declare.go:32",#[],none⟩ (v:= ?v1_4) hq hHeld rfl (by kernel_rfl) ?y1_4 ?_
    case y1_4=>(intro w h;try dsimp only at h);go_simp<;>with_reducible rfl
    try simp only [Act.put,List.setIfInBounds_toArray,List.set_cons_zero,List.set_cons_succ]
    refine clX 3 ⟨some 21,.call ⟨.value (.func 42),#[.tmp 20],#[25]⟩,9,"declare.go:32",#[⟨2,.data⟩],none⟩ rfl (by kernel_rfl) (by kernel_rfl) fun Kc hK=> ?_
    go_simp
    refine (zqx N1.out BK.out _ (Below.refl _ _).drew).mono ?_
    rintro e w8 ⟨rfl,hb⟩
    have hh8:=hid ((Below.refl wk.heap.size wk).drew.trans (hb.mono (Below.refl wk.heap.size wk).drew.size))
    clear hb
    have hHeld:=And.intro (BW.out.trans (hh8.out.mono BW.out.size)) (And.intro (zza (Below.refl _ _) kc0 kl hh8.out) (zza (Below.refl _ _) v00 vl hh8.out))
    refine hK.out _ _ (fun _ _=>hHeld) ?_
    clear hK Kc
    try simp only [Act.put,List.setIfInBounds_toArray,List.set_cons_zero,List.set_cons_succ]
    refine clX 5 ⟨some 23,.call ⟨.value (.func 145),#[.tmp 22],#[25]⟩,41,"declare.go:32",#[⟨4,.data⟩,⟨3,.chain⟩],none⟩ rfl (by kernel_rfl) (by kernel_rfl) fun Kc hK=> ?_
    go_simp
    refine (zwq E nb d w8 N1.out (BK.out.trans (hh8.out.mono BK.out.size)) HK4.out).mono ?_
    rintro e w9 ⟨pv,rfl,hpo,hb⟩
    have hh9:=hid (hh8.out.trans (hb.mono hh8.out.size))
    obtain ⟨PA,pc,rfl,-⟩:=zv3 hpo
    have OP:=hid hpo
    clear hb hpo
    have hHeld:=And.intro (BW.out.trans (hh9.out.mono BW.out.size)) (And.intro (zza (Below.refl _ _) kc0 kl hh9.out) (zza (Below.refl _ _) v00 vl hh9.out))
    refine hK.out _ _ (fun _ _=>hHeld) ?_
    clear hK Kc
    try simp only [Act.put,List.setIfInBounds_toArray,List.set_cons_zero,List.set_cons_succ]
    refine twX 6 ⟨some 24,.build 99 #[(0,.tmp 21),(1,.tmp 23)],99,"declare.go:32",#[⟨3,.data⟩,⟨5,.data⟩],none⟩ (v:= ?v1_6) hq rfl (by kernel_rfl) ?y1_6 ?_
    case y1_6=>intro w;go_simp<;>with_reducible rfl
    try simp only [Act.put,List.setIfInBounds_toArray,List.set_cons_zero,List.set_cons_succ]
    refine clX 7 ⟨some 25,.buildSlice 40 1 #[(0,.tmp 24)],40,"declare.go:32",#[⟨6,.data⟩],none⟩ rfl (by kernel_rfl) (by kernel_rfl) fun Kc hK=> ?_
    go_simp
    have hh10:=hid (hh9.out.trans ((b1 w9 (.cells #[.string (nm d),.slice PA (zzp d).length pc] 99)).mono hh9.out.size))
    have D10:=hid (DK.out.below hh10.out)
    have O10:=hid (zkb OP.out (b1 w9 (.cells #[.string (nm d),.slice PA (zzp d).length pc] 99)))
    have kl10:w2.heap.size<(w9.alloc (.cells #[.string (nm d),.slice PA (zzp d).length pc] 99)).heap.size:=Nat.lt_of_lt_of_le kl hh10.out.size
    have hHeld:=And.intro (BW.out.trans (hh10.out.mono BW.out.size)) (And.intro (zza (Below.refl _ _) kc0 kl hh10.out) (zza (Below.refl _ _) v00 vl hh10.out))
    refine hK.out _ _ (fun _ _=>hHeld) ?_
    clear hK Kc
    try simp only [Act.put,List.setIfInBounds_toArray,List.set_cons_zero,List.set_cons_succ]
    refine clX 8 ⟨some 26,.call ⟨.builtin Builtin.append,#[.tmp 19,.tmp 25],#[40,40]⟩,40,"declare.go:32",#[⟨1,.data⟩,⟨7,.data⟩,⟨5,.chain⟩],none⟩ rfl (by kernel_rfl) (by kernel_rfl) fun Kc hK=> ?_
    refine wp_append_lies _ (.tmp 19) (.tmp 25) _ rfl (w.heap.size+3) 99 i0 _ 2 40 Tryz.underlying40 HI0.out HZ0.out HZ1.out HZ2.out rfl (by omega) sv X.structs.length (z1u X.structs vs) rfl (by exact D10.out.D.s) ⟨w9.heap.size,0,none⟩ 1 1 [.string (nm d),.slice PA (zzp d).length pc] rfl rfl (by exact newsF w9 _ _ 99) (by simp [Value.oneCell']) (by omega) (by simp only [maxLen];omega) (by omega) (by have:=D10.out.sz;omega) _ rfl ?_
    intro g cap w11 hown hg hat hlt11
    have HOW:=hid hown
    have HG:=hid hg
    have HAT:=hid hat
    have hr11:∀ y,Value.ownBlock sv=some y→w.heap.size+3≤y:=fun y hy=>(D10.out.D.s.lt y hy).1
    have kne:some w2.heap.size≠Value.ownBlock sv:=fun e=>by have h9:=(DK0.out.D.s.lt _ e.symm).2;omega
    clear hown hg hat
    have f11:w11.frozen? ⟨w.heap.size+2,0,none⟩=false:=(HG.out.frozen_far ⟨w.heap.size+2,0,none⟩ (by show w.heap.size+2<_;have:=D10.out.sz;omega) (fun e=>by have h9:w.heap.size+3≤w.heap.size+2:=hr11 _ e.symm;omega)).trans (D10.out.vf _)
    have hHeld:=And.intro (Below.mk (HG.out.os.trans D10.out.B.os) (HG.out.tape.trans D10.out.B.tape) (HG.out.output.trans D10.out.B.output) (Nat.le_trans D10.out.B.size HG.out.size) (fun k hk=>(HG.out.block k (by have:=D10.out.sz;omega) (fun e=>by have:=hr11 k e.symm;omega)).trans (D10.out.B.block k hk))) (And.intro ((HG.out.cell_far ⟨w2.heap.size,0,none⟩ kl10 kne).trans hHeld.2.1) ((HG.out.cell_far ⟨w.heap.size+2,0,none⟩ (by show w.heap.size+2<_;have:=D10.out.sz;omega) (fun e=>by have h9:w.heap.size+3≤w.heap.size+2:=hr11 _ e.symm;omega)).trans hHeld.2.2))
    refine hK.out _ _ (fun _ _=>hHeld) ?_
    clear hK Kc
    try simp only [Act.put,List.setIfInBounds_toArray,List.set_cons_zero,List.set_cons_succ]
    refine twX 9 ⟨some 27,.fieldAddr 44 (.tmp 3) 0,0,"declare.go:32",#[⟨0,.phase⟩,⟨1,.phase⟩,⟨2,.phase⟩,⟨3,.phase⟩,⟨4,.phase⟩,⟨5,.phase⟩,⟨6,.phase⟩,⟨7,.phase⟩,⟨8,.phase⟩],none⟩ (v:= ?v1_9) hq rfl (by kernel_rfl) ?y1_9 ?_
    case y1_9=>intro w;go_simp<;>with_reducible rfl
    try simp only [Act.put,List.setIfInBounds_toArray,List.set_cons_zero,List.set_cons_succ]
    refine clX 10 ⟨none,.store 40 (.tmp 27) (.tmp 26),0,"declare.go:32",#[⟨9,.data⟩,⟨8,.data⟩,⟨8,.chain⟩,⟨0,.phase⟩,⟨1,.phase⟩,⟨2,.phase⟩,⟨3,.phase⟩,⟨4,.phase⟩,⟨5,.phase⟩,⟨6,.phase⟩,⟨7,.phase⟩,⟨8,.phase⟩],none⟩ rfl (by kernel_rfl) (by kernel_rfl) fun Kc hK=> ?_
    go_simp
    refine hK.out _ _ (fun h=>absurd h (by decide)) ?_
    clear hK Kc
    try simp only [Act.put,List.setIfInBounds_toArray,List.set_cons_zero,List.set_cons_succ]
    refine dnX (by kernel_rfl) ?_ _
    have hnst:Nst (w9.alloc (.cells #[.string (nm d),.slice PA (zzp d).length pc] 99)) (w.heap.size+3) gv (.slice PA (zzp d).length pc) (zzp d):=⟨zjj O10.out (by have h1:=DK.out.sz;have h2:=hh8.out.size;omega),fun g' h1 h2=>by have h3:=(O10.out.lt g' h1).1;have h4:=(DK.out.D.g.lt g' h2).2;have h5:=hh8.out.size;omega,by rw [z1g];have:=cntP_le d;omega⟩
    have hDn:=D10.out.D.pushS (s:=⟨nm d,zzp d⟩) HG.out HOW.out hnst
    have HDV:=hid (D10.out.grow HG.out hr11 hDn 0 _ rfl rfl rfl (by decide))
    have HIN:Hid (zxo (t.kids.take (k+1))= { X with structs:=X.structs++ [⟨nm d,zzp d⟩] }):=by show _=_;rw [zvj HU.out,HX.out];unfold addD;rw [if_pos ho]
    go_wp2_with fail
    go_roundw
    case rel=>exact ⟨k+1,_,_,_,_,_,by omega,by go_num,by rw [HIN.out];exact HDV⟩
    case measure=>simp [intOf];omega
   ·rw [ho]
    obtain ⟨i0,hi0,hz0,hz1,hz2⟩:=info_parts fld_info
    have HI0:=hid hi0
    have HZ0:=hid hz0
    have HZ1:=hid hz1
    have HZ2:=hid hz2
    clear hi0 hz0 hz1 hz2
    go_wp2_with fail
    refine rgX (fun w'=>Below w.heap.size w w'∧w'.cell? ⟨w2.heap.size,0,none⟩=some (.pointer (some ⟨nb,0,none⟩))∧w'.cell? ⟨w.heap.size+2,1,none⟩=some gv) [7] (by kernel_rfl) (⟨BW.out.drew,kc0,v10⟩) (fun _ a d v _ h=>And.intro ((zql a d v).symm.trans (And.left h)) (And.right h)) fun hHeld hq=> ?_
    refine twX 0 ⟨some 30,.fieldAddr 44 (.tmp 3) 1,0,"declare.go:34",#[],none⟩ (v:= ?v2_0) hq rfl (by kernel_rfl) ?y2_0 ?_
    case y2_0=>intro w;go_simp<;>with_reducible rfl
    try simp only [Act.put,List.setIfInBounds_toArray,List.set_cons_zero,List.set_cons_succ]
    refine tkX 1 ⟨some 31,.load 41 (.tmp 30),41,"declare.go:34",#[⟨0,.data⟩],none⟩ (v:= ?v2_1) hq hHeld rfl (by kernel_rfl) ?y2_1 ?_
    case y2_1=>(intro w h;try dsimp only at h);go_simp<;>with_reducible rfl
    try simp only [Act.put,List.setIfInBounds_toArray,List.set_cons_zero,List.set_cons_succ]
    refine tkX 2 ⟨some 32,.load 25 (.tmp 5),25,"declare.go:34",#[],none⟩ (v:= ?v2_2) hq hHeld rfl (by kernel_rfl) ?y2_2 ?_
    case y2_2=>(intro w h;try dsimp only at h);go_simp<;>with_reducible rfl
    try simp only [Act.put,List.setIfInBounds_toArray,List.set_cons_zero,List.set_cons_succ]
    refine clX 3 ⟨some 33,.call ⟨.value (.func 146),#[.tmp 32],#[25]⟩,97,"declare.go:34",#[⟨2,.data⟩],none⟩ rfl (by kernel_rfl) (by kernel_rfl) fun Kc hK=> ?_
    go_simp
    refine (cfieldOf_any E nb d wk.drew N1.out BK.out.drew).mono ?_
    rintro e w9 ⟨rfl,hb⟩
    have hh9:=hid ((Below.refl wk.heap.size wk).drew.trans (hb.mono (Below.refl wk.heap.size wk).drew.size))
    clear hb
    have hHeld:=And.intro (BW.out.trans (hh9.out.mono BW.out.size)) (And.intro (zza (Below.refl _ _) kc0 kl hh9.out) (zza (Below.refl _ _) v10 vl hh9.out))
    refine hK.out _ _ (fun _ _=>hHeld) ?_
    clear hK Kc
    try simp only [Act.put,List.setIfInBounds_toArray,List.set_cons_zero,List.set_cons_succ]
    refine clX 4 ⟨some 34,.buildSlice 41 1 #[(0,.tmp 33)],41,"declare.go:34",#[⟨3,.data⟩],none⟩ rfl (by kernel_rfl) (by kernel_rfl) fun Kc hK=> ?_
    go_simp
    have hh10:=hid (hh9.out.trans ((b1 w9 (.cells #[.string (nm d),.string (tp d)] 97)).mono hh9.out.size))
    have D10:=hid (DK.out.below hh10.out)
    have kl10:w2.heap.size<(w9.alloc (.cells #[.string (nm d),.string (tp d)] 97)).heap.size:=Nat.lt_of_lt_of_le kl hh10.out.size
    have hHeld:=And.intro (BW.out.trans (hh10.out.mono BW.out.size)) (And.intro (zza (Below.refl _ _) kc0 kl hh10.out) (zza (Below.refl _ _) v10 vl hh10.out))
    refine hK.out _ _ (fun _ _=>hHeld) ?_
    clear hK Kc
    try simp only [Act.put,List.setIfInBounds_toArray,List.set_cons_zero,List.set_cons_succ]
    refine clX 5 ⟨some 35,.call ⟨.builtin Builtin.append,#[.tmp 31,.tmp 34],#[41,41]⟩,41,"declare.go:34",#[⟨1,.data⟩,⟨4,.data⟩,⟨3,.chain⟩],none⟩ rfl (by kernel_rfl) (by kernel_rfl) fun Kc hK=> ?_
    refine wp_append_lies _ (.tmp 31) (.tmp 34) _ rfl (w.heap.size+3) 97 i0 _ 2 32 Tryz.underlying41 HI0.out HZ0.out HZ1.out HZ2.out rfl (by omega) gv X.globals.length (zqr X.globals) rfl (by exact D10.out.D.g) ⟨w9.heap.size,0,none⟩ 1 1 [.string (nm d),.string (tp d)] rfl rfl (by exact newsF w9 _ _ 97) (by simp [Value.oneCell']) (by omega) (by simp only [maxLen];omega) (by omega) (by have:=D10.out.sz;omega) _ rfl ?_
    intro g cap w11 hown hg hat hlt11
    have HOW:=hid hown
    have HG:=hid hg
    have HAT:=hid hat
    have hr11:∀ y,Value.ownBlock gv=some y→w.heap.size+3≤y:=fun y hy=>(D10.out.D.g.lt y hy).1
    have kne:some w2.heap.size≠Value.ownBlock gv:=fun e=>by have h9:=(DK0.out.D.g.lt _ e.symm).2;omega
    clear hown hg hat
    have f11:w11.frozen? ⟨w.heap.size+2,1,none⟩=false:=(HG.out.frozen_far ⟨w.heap.size+2,1,none⟩ (by show w.heap.size+2<_;have:=D10.out.sz;omega) (fun e=>by have h9:w.heap.size+3≤w.heap.size+2:=hr11 _ e.symm;omega)).trans (D10.out.vf _)
    have hHeld:=And.intro (Below.mk (HG.out.os.trans D10.out.B.os) (HG.out.tape.trans D10.out.B.tape) (HG.out.output.trans D10.out.B.output) (Nat.le_trans D10.out.B.size HG.out.size) (fun k hk=>(HG.out.block k (by have:=D10.out.sz;omega) (fun e=>by have:=hr11 k e.symm;omega)).trans (D10.out.B.block k hk))) (And.intro ((HG.out.cell_far ⟨w2.heap.size,0,none⟩ kl10 kne).trans hHeld.2.1) ((HG.out.cell_far ⟨w.heap.size+2,1,none⟩ (by show w.heap.size+2<_;have:=D10.out.sz;omega) (fun e=>by have h9:w.heap.size+3≤w.heap.size+2:=hr11 _ e.symm;omega)).trans hHeld.2.2))
    refine hK.out _ _ (fun _ _=>hHeld) ?_
    clear hK Kc
    try simp only [Act.put,List.setIfInBounds_toArray,List.set_cons_zero,List.set_cons_succ]
    refine twX 6 ⟨some 36,.fieldAddr 44 (.tmp 3) 1,0,"declare.go:34",#[⟨0,.phase⟩,⟨1,.phase⟩,⟨2,.phase⟩,⟨3,.phase⟩,⟨4,.phase⟩,⟨5,.phase⟩],none⟩ (v:= ?v2_6) hq rfl (by kernel_rfl) ?y2_6 ?_
    case y2_6=>intro w;go_simp<;>with_reducible rfl
    try simp only [Act.put,List.setIfInBounds_toArray,List.set_cons_zero,List.set_cons_succ]
    refine clX 7 ⟨none,.store 41 (.tmp 36) (.tmp 35),0,"declare.go:34",#[⟨6,.data⟩,⟨5,.data⟩,⟨5,.chain⟩,⟨0,.phase⟩,⟨1,.phase⟩,⟨2,.phase⟩,⟨3,.phase⟩,⟨4,.phase⟩,⟨5,.phase⟩],none⟩ rfl (by kernel_rfl) (by kernel_rfl) fun Kc hK=> ?_
    go_simp
    refine hK.out _ _ (fun h=>absurd h (by decide)) ?_
    clear hK Kc
    try simp only [Act.put,List.setIfInBounds_toArray,List.set_cons_zero,List.set_cons_succ]
    refine dnX (by kernel_rfl) ?_ _
    have hDn:=D10.out.D.pushG (s:=zwo d) HG.out HOW.out (fun g' hg'=>by
     have e:g=g':=Option.some.inj hg'
     subst e
     rcases HAT.out with h1|h1
     ·exact .inl h1
     ·exact .inr (by rw [h1];exact Nat.le_refl _))
    have HDV:=hid (D10.out.grow HG.out hr11 hDn 1 _ rfl rfl rfl (by decide))
    have HIN:Hid (zxo (t.kids.take (k+1))= { X with globals:=X.globals++ [zwo d] }):=by show _=_;rw [zvj HU.out,HX.out];unfold addD;rw [if_neg (by omega),if_pos ho]
    go_wp2_with fail
    go_roundw
    case rel=>exact ⟨k+1,_,_,_,_,_,by omega,by go_num,by rw [HIN.out];exact HDV⟩
    case measure=>simp [intOf];omega
   ·rw [ho]
    obtain ⟨i0,hi0,hz0,hz1,hz2⟩:=info_parts s55_info
    have HI0:=hid hi0
    have HZ0:=hid hz0
    have HZ1:=hid hz1
    have HZ2:=hid hz2
    clear hi0 hz0 hz1 hz2
    go_wp2_with fail
    refine rgX (fun w'=>Below w.heap.size w w'∧w'.cell? ⟨w2.heap.size,0,none⟩=some (.pointer (some ⟨nb,0,none⟩))∧w'.cell? ⟨w.heap.size+2,2,none⟩=some fv) [7] (by kernel_rfl) (⟨BW.out.drew,kc0,v20⟩) (fun _ a d v _ h=>And.intro ((zql a d v).symm.trans (And.left h)) (And.right h)) fun hHeld hq=> ?_
    refine twX 0 ⟨some 39,.fieldAddr 44 (.tmp 3) 2,0,"declare.go:36",#[],none⟩ (v:= ?v3_0) hq rfl (by kernel_rfl) ?y3_0 ?_
    case y3_0=>intro w;go_simp<;>with_reducible rfl
    try simp only [Act.put,List.setIfInBounds_toArray,List.set_cons_zero,List.set_cons_succ]
    refine tkX 1 ⟨some 40,.load 42 (.tmp 39),42,"declare.go:36",#[⟨0,.data⟩],none⟩ (v:= ?v3_1) hq hHeld rfl (by kernel_rfl) ?y3_1 ?_
    case y3_1=>(intro w h;try dsimp only at h);go_simp<;>with_reducible rfl
    try simp only [Act.put,List.setIfInBounds_toArray,List.set_cons_zero,List.set_cons_succ]
    refine tkX 2 ⟨some 41,.load 25 (.tmp 5),25,"declare.go:36",#[],none⟩ (v:= ?v3_2) hq hHeld rfl (by kernel_rfl) ?y3_2 ?_
    case y3_2=>(intro w h;try dsimp only at h);go_simp<;>with_reducible rfl
    try simp only [Act.put,List.setIfInBounds_toArray,List.set_cons_zero,List.set_cons_succ]
    refine clX 3 ⟨some 42,.call ⟨.value (.func 147),#[.tmp 41],#[25]⟩,55,"declare.go:36",#[⟨2,.data⟩],none⟩ rfl (by kernel_rfl) (by kernel_rfl) fun Kc hK=> ?_
    go_simp
    refine (csig_any E nb d wk.drew N1.out BK.out.drew HK4.out).mono ?_
    rintro e w9 ⟨pv,rfl,hpo,hb⟩
    have hh9:=hid ((Below.refl wk.heap.size wk).drew.trans (hb.mono (Below.refl wk.heap.size wk).drew.size))
    obtain ⟨PA,pc,rfl,-⟩:=zv3 hpo
    have OP:=hid hpo
    clear hb hpo
    have hHeld:=And.intro (BW.out.trans (hh9.out.mono BW.out.size)) (And.intro (zza (Below.refl _ _) kc0 kl hh9.out) (zza (Below.refl _ _) v20 vl hh9.out))
    refine hK.out _ _ (fun _ _=>hHeld) ?_
    clear hK Kc
    try simp only [Act.put,List.setIfInBounds_toArray,List.set_cons_zero,List.set_cons_succ]
    refine clX 4 ⟨some 43,.buildSlice 42 1 #[(0,.tmp 42)],42,"declare.go:36",#[⟨3,.data⟩],none⟩ rfl (by kernel_rfl) (by kernel_rfl) fun Kc hK=> ?_
    go_simp
    have hh10:=hid (hh9.out.trans ((b1 w9 (.cells #[.string (nm d),.slice PA (zzp d).length pc,.string (tp d)] 55)).mono hh9.out.size))
    have D10:=hid (DK.out.below hh10.out)
    have O10:=hid (zkb OP.out (b1 w9 (.cells #[.string (nm d),.slice PA (zzp d).length pc,.string (tp d)] 55)))
    have kl10:w2.heap.size<(w9.alloc (.cells #[.string (nm d),.slice PA (zzp d).length pc,.string (tp d)] 55)).heap.size:=Nat.lt_of_lt_of_le kl hh10.out.size
    have hHeld:=And.intro (BW.out.trans (hh10.out.mono BW.out.size)) (And.intro (zza (Below.refl _ _) kc0 kl hh10.out) (zza (Below.refl _ _) v20 vl hh10.out))
    refine hK.out _ _ (fun _ _=>hHeld) ?_
    clear hK Kc
    try simp only [Act.put,List.setIfInBounds_toArray,List.set_cons_zero,List.set_cons_succ]
    refine clX 5 ⟨some 44,.call ⟨.builtin Builtin.append,#[.tmp 40,.tmp 43],#[42,42]⟩,42,"declare.go:36",#[⟨1,.data⟩,⟨4,.data⟩,⟨3,.chain⟩],none⟩ rfl (by kernel_rfl) (by kernel_rfl) fun Kc hK=> ?_
    refine wp_append_lies _ (.tmp 40) (.tmp 43) _ rfl (w.heap.size+3) 55 i0 _ 3 56 Tryz.underlying42 HI0.out HZ0.out HZ1.out HZ2.out rfl (by omega) fv X.funs.length (z06 X.funs us) rfl (by exact D10.out.D.f) ⟨w9.heap.size,0,none⟩ 1 1 [.string (nm d),.slice PA (zzp d).length pc,.string (tp d)] rfl rfl (by exact newsG w9 _ _ _ 55) (by simp [Value.oneCell']) (by omega) (by simp only [maxLen];omega) (by omega) (by have:=D10.out.sz;omega) _ rfl ?_
    intro g cap w11 hown hg hat hlt11
    have HOW:=hid hown
    have HG:=hid hg
    have HAT:=hid hat
    have hr11:∀ y,Value.ownBlock fv=some y→w.heap.size+3≤y:=fun y hy=>(D10.out.D.f.lt y hy).1
    have kne:some w2.heap.size≠Value.ownBlock fv:=fun e=>by have h9:=(DK0.out.D.f.lt _ e.symm).2;omega
    clear hown hg hat
    have f11:w11.frozen? ⟨w.heap.size+2,2,none⟩=false:=(HG.out.frozen_far ⟨w.heap.size+2,2,none⟩ (by show w.heap.size+2<_;have:=D10.out.sz;omega) (fun e=>by have h9:w.heap.size+3≤w.heap.size+2:=hr11 _ e.symm;omega)).trans (D10.out.vf _)
    have hHeld:=And.intro (Below.mk (HG.out.os.trans D10.out.B.os) (HG.out.tape.trans D10.out.B.tape) (HG.out.output.trans D10.out.B.output) (Nat.le_trans D10.out.B.size HG.out.size) (fun k hk=>(HG.out.block k (by have:=D10.out.sz;omega) (fun e=>by have:=hr11 k e.symm;omega)).trans (D10.out.B.block k hk))) (And.intro ((HG.out.cell_far ⟨w2.heap.size,0,none⟩ kl10 kne).trans hHeld.2.1) ((HG.out.cell_far ⟨w.heap.size+2,2,none⟩ (by show w.heap.size+2<_;have:=D10.out.sz;omega) (fun e=>by have h9:w.heap.size+3≤w.heap.size+2:=hr11 _ e.symm;omega)).trans hHeld.2.2))
    refine hK.out _ _ (fun _ _=>hHeld) ?_
    clear hK Kc
    try simp only [Act.put,List.setIfInBounds_toArray,List.set_cons_zero,List.set_cons_succ]
    refine twX 6 ⟨some 45,.fieldAddr 44 (.tmp 3) 2,0,"declare.go:36",#[⟨0,.phase⟩,⟨1,.phase⟩,⟨2,.phase⟩,⟨3,.phase⟩,⟨4,.phase⟩,⟨5,.phase⟩],none⟩ (v:= ?v3_6) hq rfl (by kernel_rfl) ?y3_6 ?_
    case y3_6=>intro w;go_simp<;>with_reducible rfl
    try simp only [Act.put,List.setIfInBounds_toArray,List.set_cons_zero,List.set_cons_succ]
    refine clX 7 ⟨none,.store 42 (.tmp 45) (.tmp 44),0,"declare.go:36",#[⟨6,.data⟩,⟨5,.data⟩,⟨5,.chain⟩,⟨0,.phase⟩,⟨1,.phase⟩,⟨2,.phase⟩,⟨3,.phase⟩,⟨4,.phase⟩,⟨5,.phase⟩],none⟩ rfl (by kernel_rfl) (by kernel_rfl) fun Kc hK=> ?_
    go_simp
    refine hK.out _ _ (fun h=>absurd h (by decide)) ?_
    clear hK Kc
    try simp only [Act.put,List.setIfInBounds_toArray,List.set_cons_zero,List.set_cons_succ]
    refine dnX (by kernel_rfl) ?_ _
    have hnst:Nst (w9.alloc (.cells #[.string (nm d),.slice PA (zzp d).length pc,.string (tp d)] 55)) (w.heap.size+3) gv (.slice PA (zzp d).length pc) (zzp d):=⟨zjj O10.out (by have h1:=DK.out.sz;show _≤wk.heap.size;omega),fun g' h1 h2=>by have h3:wk.heap.size≤g':=(O10.out.lt g' h1).1;have h4:=(DK.out.D.g.lt g' h2).2;omega,by rw [z1g];have:=cntP_le d;omega⟩
    have hDn:=D10.out.D.pushF (s:=⟨nm d,zzp d,tp d⟩) HG.out HOW.out hnst
    have HDV:=hid (D10.out.grow HG.out hr11 hDn 2 _ rfl rfl rfl (by decide))
    have HIN:Hid (zxo (t.kids.take (k+1))= { X with funs:=X.funs++ [⟨nm d,zzp d,tp d⟩] }):=by show _=_;rw [zvj HU.out,HX.out];unfold addD;rw [if_neg (by omega),if_neg (by omega),if_pos ho]
    go_wp2_with fail
    go_roundw
    case rel=>exact ⟨k+1,_,_,_,_,_,by omega,by go_num,by rw [HIN.out];exact HDV⟩
    case measure=>simp [intOf];omega
   ·obtain ⟨n2,n3,n4⟩:=ho
    have f2:((d.op:Int)==2)=false:=by rw [beq_eq_false_iff_ne];omega
    have f3:((d.op:Int)==3)=false:=by rw [beq_eq_false_iff_ne];omega
    have f4:((d.op:Int)==4)=false:=by rw [beq_eq_false_iff_ne];omega
    have HDV:=DK
    have HIN:Hid (zxo (t.kids.take (k+1))=X):=by show _=_;rw [zvj HU.out,HX.out];unfold addD;rw [if_neg n2,if_neg n3,if_neg n4]
    clear n2 n3 n4
    go_wp2_with fail
    go_roundw
    case rel=>exact ⟨k+1,_,_,_,_,_,by omega,by go_num,by rw [HIN.out];exact HDV⟩
    case measure=>simp [intOf];omega
  ·obtain rfl:k=m:=by omega
   have hall:t.kids.take k=t.kids:=List.take_of_length_le (by have:=HM.out;omega)
   rw [hall] at DR0
   obtain ⟨sA,gA,fA,sc,gc,fc,rfl,rfl,rfl,-⟩:=DR0.out.D.out
   have v0:=DR0.out.v0
   have v1:=DR0.out.v1
   have v2:=DR0.out.v2
   have r0:=DR0.out.r 0 (by decide)
   have r1:=DR0.out.r 1 (by decide)
   have r2:=DR0.out.r 2 (by decide)
   have q0:=DR0.out.rf 0
   have q1:=DR0.out.rf 1
   have q2:=DR0.out.rf 2
   have low:∀ y,some (w.heap.size+1)=some y→y<w.heap.size+3:=fun y e=>by have:=Option.some.inj e;omega
   obtain ⟨s1,hs1⟩:∃ x,x=Value.slice sA (zxo t.kids).structs.length sc:=⟨_,rfl⟩
   obtain ⟨g1,hg1⟩:∃ x,x=Value.slice gA (zxo t.kids).globals.length gc:=⟨_,rfl⟩
   obtain ⟨f1,hf1⟩:∃ x,x=Value.slice fA (zxo t.kids).funs.length fc:=⟨_,rfl⟩
   have hDf:=((DR0.out.D.keep (zxf wr ⟨w.heap.size+1,0,none⟩ (.slice sA (zxo t.kids).structs.length sc)) low).keep (zxf _ ⟨w.heap.size+1,1,none⟩ (.slice gA (zxo t.kids).globals.length gc)) low).keep (zxf _ ⟨w.heap.size+1,2,none⟩ (.slice fA (zxo t.kids).funs.length fc)) low
   have hBf:=((DR0.out.B.setCell (p:=⟨w.heap.size+1,0,none⟩) (Nat.le_succ _) (.slice sA (zxo t.kids).structs.length sc)).setCell (p:=⟨w.heap.size+1,1,none⟩) (Nat.le_succ _) (.slice gA (zxo t.kids).globals.length gc)).setCell (p:=⟨w.heap.size+1,2,none⟩) (Nat.le_succ _) (.slice fA (zxo t.kids).funs.length fc)
   have HDf:=hid hDf
   have HBf:=hid hBf
   clear hDf hBf hs1 hg1 hf1 low
   go_wp2_with fail
   refine bodyPost_ret (v:= .agg #[.slice sA (zxo t.kids).structs.length sc,.slice gA (zxo t.kids).globals.length gc,.slice fA (zxo t.kids).funs.length fc]) (by simp [results,Tryz.results107,go_sem,r0,r1,r2]) rfl ?_
   exact ⟨_,_,_,_,_,rfl,HDf.out,HBf.out⟩
end Go.Proofs.YtkahbhfbgdbnfaaGreatDoor
