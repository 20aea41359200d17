/- CONTRACTS: field, callee of package check. Of what was there nothing has turned. -/
import Derived.Test.YtkahbhfbgdbnfaaGreatDoorZ2
import Derived.Deep.CutRange
import Derived.Test.YtkahbhfbgdbnfaaGreatDoorZ1
import Derived.Deep.AppendLies
import Derived.Maps.AppendAt
import Derived.OwnWalk
import Derived.RegionTactic
import Derived.Lib.LaidTab
set_option maxRecDepth 100000
set_option maxHeartbeats 1000000
namespace Go.Proofs.YtkahbhfbgdbnfaaGreatDoor
open Go.Lib (hid)
open Go.RowKit
def TyOk (x:Inf) (a:ByteArray):Prop:=∀ s,zwg a=some s→∃ j,fnd x.structs s=some j
theorem elem_eq (a:Option ByteArray):elemV a= .tuple #[.string (a.getD ⟨#[]⟩),.bool a.isSome]:=by cases a<;>rfl
theorem str_at {w:World} {A:Option Addr} {ss:List Str} {g:Nat} (h:SR w A ss) (hg:g<ss.length):∃ b o FA fc,A=some ⟨b,o,none⟩∧b<w.heap.size∧w.cell? ⟨b,o+g*2,none⟩=some (.string (ss.getD g strZ).name)∧w.cell? ⟨b,o+g*2+1,none⟩=some (.slice FA (ss.getD g strZ).fields.length fc)∧(ss.getD g strZ).fields.length≤fc∧(ss.getD g strZ).fields.length≤281474976710656∧FR w FA (ss.getD g strZ).fields:=by
 obtain ⟨b,o,e,hb,h1⟩:=h (by omega)
 obtain ⟨FA,fc,a1,a2,a3,a4,a5⟩:=h1 g _ (List.getElem?_eq_getElem hg)
 rw [show ss.getD g strZ=ss[g] by rw [List.getD_eq_getElem?_getD,List.getElem?_eq_getElem hg];rfl]
 exact ⟨b,o,FA,fc,e,hb,a1,a2,a3,a4,a5⟩
theorem sg_at {w:World} {A:Option Addr} {ss:List Sg} {g:Nat} (h:GR w A ss) (hg:g<ss.length):∃ b o,A=some ⟨b,o,none⟩∧b<w.heap.size∧SgAt w b o g (ss.getD g sgZ):=by
 obtain ⟨b,o,e,hb,h1⟩:=h (by omega)
 rw [show ss.getD g sgZ=ss[g] by rw [List.getD_eq_getElem?_getD,List.getElem?_eq_getElem hg];rfl]
 exact ⟨b,o,e,hb,h1 g _ (List.getElem?_eq_getElem hg)⟩
theorem two_new (w:World) (a b:Value) (e:TypeId):(w.alloc (.cells #[a,b] e)).cell? ⟨w.heap.size,0,none⟩=some a∧(w.alloc (.cells #[a,b] e)).cell? ⟨w.heap.size,1,none⟩=some b:=⟨zxa w _ e 0,zxa w _ e 1⟩
theorem cfield_any (E:CE) (v:Value) (K:List Fld) (f b:Nat) (t:Tree) (a:ByteArray) (w:World) (H:SC E w v K f) (N:Nd E b t) (ht:Hid (TyOk E.x a)):
 Calls Tryz.prog 190 #[.pointer (some ⟨E.sb,0,none⟩),.agg #[.pointer (some ⟨b,0,none⟩)],.string a] w (XQ E w (zjn E.x t.pos (nm t) a)):=by
 have B0:=hid (b1 w (.cells #[.pointer (some ⟨b,0,none⟩)] 25))
 have H0:=hid (H.below (b1 w (.cells #[.pointer (some ⟨b,0,none⟩)] 25)))
 have U0:=hid (PtrAt.new w (some ⟨b,0,none⟩))
 have NN:=hid N
 obtain ⟨r,hr⟩:∃ d,zwg a=d:=⟨_,rfl⟩
 have HR:=hid hr
 have er:=elem_eq r
 clear H N hr
 go_enter Tryz.func190,Tryz.ntmps190
 go_wp2_with fail
 generalize w.alloc (.cells #[.pointer (some ⟨b,0,none⟩)] 25)=wa at*
 have u0:=U0.out.c0
 have ul:=U0.out.lt
 have sl:=H0.out.lt
 have c0:=H0.out.c0
 have c1:=H0.out.c1
 have c2:=H0.out.c2
 refine (elem_any a r wa (hid H0.out.imw.good.keys) HR).mono ?_
 rintro e w1 ⟨rfl,rfl⟩
 rw [er]
 go_wp2_with fail
 cases r with
 |none=>
  refine (zz2 NN.out H0.out.B false 7 _ (Below.refl _ _)).mono ?_
  rintro e w1 ⟨hb,rfl⟩
  exact ⟨rfl,B0.out.trans (hb.mono B0.out.size),by unfold zjn;rw [HR.out];rfl⟩
 |some s=>
  refine (zz2 NN.out H0.out.B true 7 _ (Below.refl _ _)).mono ?_
  rintro e w1 ⟨hb,rfl⟩
  obtain ⟨j,hj⟩:=ht.out s HR.out
  have HJ:=hid hj
  have hjl:=fnd_lt hj
  have hjc:=H0.out.im.sle
  have hjm:=H0.out.im.sl
  have H1:=hid (H0.out.below hb)
  have b1':=hid hb
  clear hj c0 c1 c2
  have c0:=H1.out.c0
  simp only [Option.getD_some,Option.isSome_some]
  have u0:=zza (Below.refl _ _) u0 ul hb
  clear hb
  go_wp2_with fail
  refine (zv5 _ _ _ E.x.structs s (some j) _ H1.out.imw.S (hid rfl) (by omega) HJ).mono ?_
  rintro e w3 ⟨rfl,hb⟩
  unfold zqt
  have H3:=hid (H1.out.below hb)
  have b3':=hid (b1'.out.trans (hb.mono b1'.out.size))
  have u0:=zza b1'.out u0 ul hb
  clear hb H1 c0 b1'
  have c0:=H3.out.c0
  have hS:Hid (E.x.structs.getD j strZ=zwi E.x s):=by show _=_;unfold zwi;rw [HJ.out];rfl
  obtain ⟨sb,so,FA,fc,hsa,-,s0,s1,sle,slm,sfr⟩:=str_at H3.out.imw.S hjl
  rw [hS.out] at s0 s1 sle slm sfr
  have SF:=hid sfr
  rw [hsa] at c0
  have HSA:=hid hsa
  clear hsa sfr
  have B4:=hid (b1 w3 (.cells #[.string (zwi E.x s).name,.slice FA (zwi E.x s).fields.length fc] 99))
  obtain ⟨v0,v1⟩:=two_new w3 (.string (zwi E.x s).name) (.slice FA (zwi E.x s).fields.length fc) 99
  have vl:w3.heap.size<(w3.alloc (.cells #[.string (zwi E.x s).name,.slice FA (zwi E.x s).fields.length fc] 99)).heap.size:=by simp
  generalize hlen:E.x.structs.length=sm at*
  go_wp2_with fail
  generalize w3.alloc (.cells #[.string (zwi E.x s).name,.slice FA (zwi E.x s).fields.length fc] 99)=wb at*
  subst hlen
  have H4:=hid (H3.out.below B4.out)
  have b4':=hid (b3'.out.trans (B4.out.mono b3'.out.size))
  have u0:=zza b3'.out u0 ul B4.out
  have ul:=Nat.lt_of_lt_of_le ul b4'.out.size
  have SF4:=hid (SF.out.below B4.out (Nat.le_refl _))
  obtain ⟨p,hp⟩:∃ d,plc (zwi E.x s).fields (nm t)=d:=⟨_,rfl⟩
  have HP:=hid hp
  have ep:=z3b p
  have HF:Hid (zjn E.x t.pos (nm t) a=fieldOf t.pos (zwi E.x s).fields p):=by show _=_;unfold zjn;rw [HR.out,←hp]
  clear hp c0 s0 s1 B4 H3 SF b3' HSA hS HJ
  refine rgS (fun w'=>Below wb.heap.size wb w'∧w'.cell? ⟨w.heap.size,0,none⟩=some (.pointer (some ⟨b,0,none⟩))∧w'.cell? ⟨w3.heap.size,0,none⟩=some (.string (zwi E.x s).name)∧w'.cell? ⟨w3.heap.size,1,none⟩=some (.slice FA (zwi E.x s).fields.length fc)) (by kernel_rfl) (⟨(Below.refl _ _).drew,u0,v0,v1⟩) (by repeat first|exact zva|apply zj9) fun hHeld hq=> ?_
  refine tkS 0 ⟨some 40,.load 99 (.tmp 11),99,"expr.go:87",#[],none⟩ (v:= ?v1_0) hq hHeld rfl (by kernel_rfl) ?y1_0 ?_
  case y1_0=>(intro w h;try dsimp only at h);go_simp<;>with_reducible rfl
  try simp only [Act.put,List.setIfInBounds_toArray,List.set_cons_zero,List.set_cons_succ]
  refine tkS 1 ⟨some 41,.load 25 (.tmp 4),25,"expr.go:87",#[],none⟩ (v:= ?v1_1) hq hHeld rfl (by kernel_rfl) ?y1_1 ?_
  case y1_1=>(intro w h;try dsimp only at h);go_simp<;>with_reducible rfl
  try simp only [Act.put,List.setIfInBounds_toArray,List.set_cons_zero,List.set_cons_succ]
  refine clS 2 ⟨some 42,.call ⟨.value (.func 42),#[.tmp 41],#[25]⟩,9,"expr.go:87",#[⟨1,.data⟩],none⟩ rfl (by kernel_rfl) (by kernel_rfl) fun Kc hK=> ?_
  go_simp
  refine (zqx NN.out H4.out.B _ hHeld.1).mono ?_
  rintro e w1 ⟨rfl,hb⟩
  refine hK.out _ _ ⟨hHeld.1.trans (hb.mono hHeld.1.size),zza hHeld.1 hHeld.2.1 ul hb,zza hHeld.1 hHeld.2.2.1 vl hb,zza hHeld.1 hHeld.2.2.2 vl hb⟩ fun hHeld=> ?_
  clear hb
  clear hK Kc
  try simp only [Act.put,List.setIfInBounds_toArray,List.set_cons_zero,List.set_cons_succ]
  refine clS 3 ⟨some 43,.call ⟨.value (.func 117),#[.tmp 40,.tmp 42],#[99,9]⟩,57,"expr.go:87",#[⟨0,.data⟩,⟨2,.data⟩,⟨2,.chain⟩],none⟩ rfl (by kernel_rfl) (by kernel_rfl) fun Kc hK=> ?_
  go_simp
  refine (place_any _ _ _ _ (zwi E.x s).fields (nm t) p _ (SF4.out.below hHeld.1 (Nat.le_refl _)) (hid rfl) slm HP).mono ?_
  rintro e w1 ⟨rfl,hb⟩
  rw [ep]
  refine hK.out _ _ ⟨hHeld.1.trans (hb.mono hHeld.1.size),zza hHeld.1 hHeld.2.1 ul hb,zza hHeld.1 hHeld.2.2.1 vl hb,zza hHeld.1 hHeld.2.2.2 vl hb⟩ fun hHeld=> ?_
  clear hb
  clear hK Kc
  try simp only [Act.put,List.setIfInBounds_toArray,List.set_cons_zero,List.set_cons_succ]
  refine tkS 4 ⟨some 39,.move (.tmp 43),57,"expr.go:87",#[⟨3,.data⟩],none⟩ (v:= ?v1_4) hq hHeld rfl (by kernel_rfl) ?y1_4 ?_
  case y1_4=>(intro w h;try dsimp only at h);go_simp<;>with_reducible rfl
  try simp only [Act.put,List.setIfInBounds_toArray,List.set_cons_zero,List.set_cons_succ]
  refine tkS 5 ⟨some 44,.extract (.tmp 39) 0,3,"expr.go:87",#[⟨4,.data⟩],none⟩ (v:= ?v1_5) hq hHeld rfl (by kernel_rfl) ?y1_5 ?_
  case y1_5=>(intro w h;try dsimp only at h);go_simp<;>with_reducible rfl
  try simp only [Act.put,List.setIfInBounds_toArray,List.set_cons_zero,List.set_cons_succ]
  refine tkS 6 ⟨some 45,.extract (.tmp 39) 1,4,"expr.go:87",#[⟨4,.data⟩,{ on:=7,ground:= .gcOnly Departure.lateStores }],none⟩ (v:= ?v1_6) hq hHeld rfl (by kernel_rfl) ?y1_6 ?_
  case y1_6=>(intro w h;try dsimp only at h);go_simp<;>with_reducible rfl
  try simp only [Act.put,List.setIfInBounds_toArray,List.set_cons_zero,List.set_cons_succ]
  refine tkS 7 ⟨some 12,.assign (.tmp 44),3,"expr.go:87",#[⟨5,.data⟩,⟨3,.chain⟩,⟨0,.phase⟩,⟨1,.phase⟩,⟨2,.phase⟩,⟨3,.phase⟩,⟨4,.phase⟩,⟨5,.phase⟩,{ on:=6,ground:= .textOnly Departure.lateStores }],none⟩ (v:= ?v1_7) hq hHeld rfl (by kernel_rfl) ?y1_7 ?_
  case y1_7=>(intro w h;try dsimp only at h);go_simp<;>with_reducible rfl
  try simp only [Act.put,List.setIfInBounds_toArray,List.set_cons_zero,List.set_cons_succ]
  refine tkS 8 ⟨some 8,.assign (.tmp 45),4,"expr.go:87",#[⟨6,.data⟩,⟨7,.chain⟩,⟨0,.phase⟩,⟨1,.phase⟩,⟨2,.phase⟩,⟨3,.phase⟩,⟨4,.phase⟩,⟨5,.phase⟩,⟨6,.phase⟩,⟨7,.phase⟩],none⟩ (v:= ?v1_8) hq hHeld rfl (by kernel_rfl) ?y1_8 ?_
  case y1_8=>(intro w h;try dsimp only at h);go_simp<;>with_reducible rfl
  try simp only [Act.put,List.setIfInBounds_toArray,List.set_cons_zero,List.set_cons_succ]
  refine wpAnyH_done (by kernel_rfl) ?_ _
  have hh:=hid hHeld.1
  have u0:=hHeld.2.1
  have v0:=hHeld.2.2.1
  have v1:=hHeld.2.2.2
  clear hHeld
  go_wp2_with fail
  cases p with
  |none=>
   refine (zz2 NN.out H4.out.B false 5 _ hh.out).mono ?_
   rintro e w6 ⟨hb,rfl⟩
   exact ⟨rfl,onB (B0.out.trans (b4'.out.mono B0.out.size)) hh.out hb,by rw [HF.out];rfl⟩
  |some k=>
   refine (zz2 NN.out H4.out.B true 5 _ hh.out).mono ?_
   rintro e w6 ⟨hb,rfl⟩
   have hkl:=plc_lt HP.out
   obtain ⟨fb,fo,hfa,-,hcell⟩:=fld_at (SF4.out.below (hh.out.trans (hb.mono hh.out.size)) (Nat.le_refl _)) hkl
   have v1:=zza hh.out v1 vl hb
   have hh:=hid (hh.out.trans (hb.mono hh.out.size))
   rw [hfa] at v1
   simp only [Option.getD_some,Option.isSome_some]
   clear hb u0 v0
   generalize (zwi E.x s).fields.length=fm at*
   go_wp2_with fail
   go_ret
   exact ⟨onB B0.out b4'.out hh.out,by rw [HF.out];rfl⟩
def GQ (E:CE) (w:World) (r:CR Sg) (e:Ending) (w':World):Prop:=Below w.heap.size w w'∧(match r with
 | .ok g=>∃ A c,e= .returned (.agg #[.string g.name,.slice A g.params.length c,.string g.res])∧g.params.length≤c∧g.params.length≤100000∧FR w' A g.params
 | .bad p er=>e=cfE (E.pl p) er)
theorem loc_eq (K:List Fld) (a:Option Nat):∃ s,locV K a= .tuple #[.string s,.bool a.isSome]:=by cases a with
 |none=>exact ⟨_,rfl⟩
 |some i=>exact ⟨_,rfl⟩
theorem ccallee_any (E:CE) (v:Value) (K:List Fld) (f b:Nat) (t:Tree) (w:World) (H:SC E w v K f) (N:Nd E b t):
 Calls Tryz.prog 230 #[.pointer (some ⟨E.sb,0,none⟩),.agg #[.pointer (some ⟨b,0,none⟩)]] w (GQ E w (zju E.x K t.pos (nm t))):=by
 have B0:=hid (b2 w (.cells #[.pointer (some ⟨b,0,none⟩)] 25) (.cells #[.string ⟨#[]⟩,.slice none 0 0,.string ⟨#[]⟩] 55))
 have H0:=hid (H.below (b2 w (.cells #[.pointer (some ⟨b,0,none⟩)] 25) (.cells #[.string ⟨#[]⟩,.slice none 0 0,.string ⟨#[]⟩] 55)))
 have U0:=hid ((PtrAt.new w (some ⟨b,0,none⟩)).below (b1 _ (.cells #[.string ⟨#[]⟩,.slice none 0 0,.string ⟨#[]⟩] 55)))
 have r0:((w.alloc (.cells #[.pointer (some ⟨b,0,none⟩)] 25)).alloc (.cells #[.string ⟨#[]⟩,.slice none 0 0,.string ⟨#[]⟩] 55)).cell? ⟨w.heap.size+1,0,none⟩=some (.string ⟨#[]⟩):=zxh w _ _ _ _ 0
 have r1:((w.alloc (.cells #[.pointer (some ⟨b,0,none⟩)] 25)).alloc (.cells #[.string ⟨#[]⟩,.slice none 0 0,.string ⟨#[]⟩] 55)).cell? ⟨w.heap.size+1,1,none⟩=some (.slice none 0 0):=zxh w _ _ _ _ 1
 have r2:((w.alloc (.cells #[.pointer (some ⟨b,0,none⟩)] 25)).alloc (.cells #[.string ⟨#[]⟩,.slice none 0 0,.string ⟨#[]⟩] 55)).cell? ⟨w.heap.size+1,2,none⟩=some (.string ⟨#[]⟩):=zxh w _ _ _ _ 2
 have rl:w.heap.size+1<((w.alloc (.cells #[.pointer (some ⟨b,0,none⟩)] 25)).alloc (.cells #[.string ⟨#[]⟩,.slice none 0 0,.string ⟨#[]⟩] 55)).heap.size:=by simp
 have z0:∀ k,((w.alloc (.cells #[.pointer (some ⟨b,0,none⟩)] 25)).alloc (.cells #[.string ⟨#[]⟩,.slice none 0 0,.string ⟨#[]⟩] 55)).frozen? ⟨w.heap.size+1,k,none⟩=false:=by intro k;simp [go_sem]
 have NN:=hid N
 have HB:=hid H.B
 obtain ⟨d,hd⟩:∃ d,z3g E.x (nm t)=d:=⟨_,rfl⟩
 obtain ⟨a,ha⟩:∃ d,locO K (nm t)=d:=⟨_,rfl⟩
 obtain ⟨g,hg⟩:∃ d,funO E.x (nm t)=d:=⟨_,rfl⟩
 have HD:=hid hd
 have HA:=hid ha
 have HG:=hid hg
 have HC:Hid (zju E.x K t.pos (nm t)=z0a E.x t.pos a.isSome d g):=by show _=_;unfold zju;rw [hd,ha,hg]
 have eg:=z3b g
 obtain ⟨ls,el⟩:=loc_eq K a
 generalize a.isSome=l at*
 clear hd ha hg H N
 go_enter Tryz.func230,Tryz.ntmps230
 go_wp2_with fail
 generalize (w.alloc (.cells #[.pointer (some ⟨b,0,none⟩)] 25)).alloc (.cells #[.string ⟨#[]⟩,.slice none 0 0,.string ⟨#[]⟩] 55)=wa at*
 have u0:=U0.out.c0
 have ul:=U0.out.lt
 have sl:=H0.out.lt
 have c0:=H0.out.c0
 have c1:=H0.out.c1
 have c2:=H0.out.c2
 refine (zqx NN.out H0.out.B _ (Below.refl _ _)).mono ?_
 rintro e w1 ⟨rfl,hb⟩
 have u0:=zza (Below.refl _ _) u0 ul hb
 have hh:=hid hb
 clear hb
 go_wp2_with fail
 refine (clocal_any E v K f (nm t) a w1 (H0.out.below hh.out) HA).mono ?_
 rintro e w2 ⟨rfl,rfl⟩
 rw [el]
 go_wp2_with fail
 cases l with
 |true=>
  refine rgS (fun w'=>Below wa.heap.size wa w'∧w'.cell? ⟨w.heap.size,0,none⟩=some (.pointer (some ⟨b,0,none⟩))) (by kernel_rfl) (⟨hh.out.drew,u0⟩) (by repeat first|exact zva|apply zj9) fun hHeld hq=> ?_
  refine tkS 0 ⟨some 16,.load 25 (.tmp 3),25,"expr.go:107",#[],none⟩ (v:= ?v1_0) hq hHeld rfl (by kernel_rfl) ?y1_0 ?_
  case y1_0=>(intro w h;try dsimp only at h);go_simp<;>with_reducible rfl
  try simp only [Act.put,List.setIfInBounds_toArray,List.set_cons_zero,List.set_cons_succ]
  refine tkS 1 ⟨some 17,.move (.tmp 6),4,"expr.go:107",#[],none⟩ (v:= ?v1_1) hq hHeld rfl (by kernel_rfl) ?y1_1 ?_
  case y1_1=>(intro w h;try dsimp only at h);go_simp<;>with_reducible rfl
  try simp only [Act.put,List.setIfInBounds_toArray,List.set_cons_zero,List.set_cons_succ]
  refine tkS 2 ⟨some 18,.move (.tmp 17),4,"expr.go:107",#[⟨1,.data⟩],none⟩ (v:= ?v1_2) hq hHeld rfl (by kernel_rfl) ?y1_2 ?_
  case y1_2=>(intro w h;try dsimp only at h);go_simp<;>with_reducible rfl
  try simp only [Act.put,List.setIfInBounds_toArray,List.set_cons_zero,List.set_cons_succ]
  refine skS 3 ⟨some 19,.move (.tmp 0),185,"expr.go:107",#[⟨2,.guard⟩],some (2,false)⟩ hq hHeld rfl (by kernel_rfl) ?_
  try simp only [Act.put,List.setIfInBounds_toArray,List.set_cons_zero,List.set_cons_succ]
  refine skS 4 ⟨some 20,.load 25 (.tmp 3),25,"expr.go:107",#[⟨2,.guard⟩],some (2,false)⟩ hq hHeld rfl (by kernel_rfl) ?_
  try simp only [Act.put,List.setIfInBounds_toArray,List.set_cons_zero,List.set_cons_succ]
  refine skS 5 ⟨some 21,.call ⟨.value (.func 42),#[.tmp 20],#[25]⟩,9,"expr.go:107",#[⟨4,.data⟩,⟨2,.chain⟩,⟨2,.guard⟩],some (2,false)⟩ hq hHeld rfl (by kernel_rfl) ?_
  try simp only [Act.put,List.setIfInBounds_toArray,List.set_cons_zero,List.set_cons_succ]
  refine skS 6 ⟨some 22,.call ⟨.value (.func 211),#[.tmp 19,.tmp 21],#[185,9]⟩,4,"expr.go:107",#[⟨3,.data⟩,⟨5,.data⟩,⟨5,.chain⟩,⟨2,.guard⟩],some (2,false)⟩ hq hHeld rfl (by kernel_rfl) ?_
  try simp only [Act.put,List.setIfInBounds_toArray,List.set_cons_zero,List.set_cons_succ]
  refine tkS 7 ⟨some 23,.pick (.tmp 18) (.const (Value.bool true)) (.tmp 22),4,"expr.go:107",#[⟨2,.data⟩,⟨6,.data⟩],none⟩ (v:= ?v1_7) hq hHeld rfl (by kernel_rfl) ?y1_7 ?_
  case y1_7=>(intro w h;try dsimp only at h);go_simp<;>with_reducible rfl
  try simp only [Act.put,List.setIfInBounds_toArray,List.set_cons_zero,List.set_cons_succ]
  refine clS 8 ⟨some 24,.call ⟨.value (.func 148),#[.tmp 16,.tmp 23,.const (Value.int IntKind.i64 5)],#[25,4,26]⟩,0,"expr.go:107",#[⟨0,.data⟩,⟨7,.data⟩,⟨6,.chain⟩],none⟩ rfl (by kernel_rfl) (by kernel_rfl) fun Kc hK=> ?_
  go_simp
  refine (zz2 NN.out H0.out.B true 5 _ hHeld.1).mono ?_
  rintro e w1 ⟨hb,rfl⟩
  refine hK.out _ _ ⟨hHeld.1.trans (hb.mono hHeld.1.size),zza hHeld.1 hHeld.2 ul hb⟩ fun hHeld=> ?_
  clear hb
  clear hK Kc
  try simp only [Act.put,List.setIfInBounds_toArray,List.set_cons_zero,List.set_cons_succ]
  refine wpAnyH_done (by kernel_rfl) ?_ _
  have u0:=hHeld.2
  have c0:=zza (Below.refl _ _) c0 sl hHeld.1
  have c1:=zza (Below.refl _ _) c1 sl hHeld.1
  have c2:=zza (Below.refl _ _) c2 sl hHeld.1
  go_wp2_with fail
  refine rgS (fun w'=>Below wa.heap.size wa w'∧w'.cell? ⟨w.heap.size,0,none⟩=some (.pointer (some ⟨b,0,none⟩))∧w'.cell? ⟨E.sb,0,none⟩=some (.slice E.sA E.x.structs.length E.sc)∧w'.cell? ⟨E.sb,1,none⟩=some (.slice E.gA E.x.globals.length E.gc)∧w'.cell? ⟨E.sb,2,none⟩=some (.slice E.fA E.x.funs.length E.fc)) (by kernel_rfl) (⟨hHeld.1.drew,u0,c0,c1,c2⟩) (by repeat first|exact zva|apply zj9) fun hHeld hq=> ?_
  refine tkS 0 ⟨some 26,.move (.tmp 0),185,"expr.go:108",#[],none⟩ (v:= ?v2_0) hq hHeld rfl (by kernel_rfl) ?y2_0 ?_
  case y2_0=>(intro w h;try dsimp only at h);go_simp<;>with_reducible rfl
  try simp only [Act.put,List.setIfInBounds_toArray,List.set_cons_zero,List.set_cons_succ]
  refine tkS 1 ⟨some 27,.nilCheck (.tmp 26),0,"expr.go:108",#[⟨0,.data⟩],none⟩ (v:= ?v2_1) hq hHeld rfl (by kernel_rfl) ?y2_1 ?_
  case y2_1=>(intro w h;try dsimp only at h);go_simp<;>with_reducible rfl
  try simp only [Act.put,List.setIfInBounds_toArray,List.set_cons_zero,List.set_cons_succ]
  refine tkS 2 ⟨some 28,.fieldAddr 179 (.tmp 27) 0,0,"expr.go:108",#[⟨1,.data⟩],none⟩ (v:= ?v2_2) hq hHeld rfl (by kernel_rfl) ?y2_2 ?_
  case y2_2=>(intro w h;try dsimp only at h);go_simp<;>with_reducible rfl
  try simp only [Act.put,List.setIfInBounds_toArray,List.set_cons_zero,List.set_cons_succ]
  refine tkS 3 ⟨some 29,.load 44 (.tmp 28),44,"expr.go:108",#[⟨2,.data⟩],none⟩ (v:= ?v2_3) hq hHeld rfl (by kernel_rfl) ?y2_3 ?_
  case y2_3=>(intro w h;try dsimp only at h);go_simp<;>with_reducible rfl
  try simp only [Act.put,List.setIfInBounds_toArray,List.set_cons_zero,List.set_cons_succ]
  refine tkS 4 ⟨some 30,.load 25 (.tmp 3),25,"expr.go:108",#[],none⟩ (v:= ?v2_4) hq hHeld rfl (by kernel_rfl) ?y2_4 ?_
  case y2_4=>(intro w h;try dsimp only at h);go_simp<;>with_reducible rfl
  try simp only [Act.put,List.setIfInBounds_toArray,List.set_cons_zero,List.set_cons_succ]
  refine clS 5 ⟨some 31,.call ⟨.value (.func 42),#[.tmp 30],#[25]⟩,9,"expr.go:108",#[⟨4,.data⟩],none⟩ rfl (by kernel_rfl) (by kernel_rfl) fun Kc hK=> ?_
  go_simp
  refine (zqx NN.out H0.out.B _ hHeld.1).mono ?_
  rintro e w1 ⟨rfl,hb⟩
  refine hK.out _ _ ⟨hHeld.1.trans (hb.mono hHeld.1.size),zza hHeld.1 hHeld.2.1 ul hb,zza hHeld.1 hHeld.2.2.1 sl hb,zza hHeld.1 hHeld.2.2.2.1 sl hb,zza hHeld.1 hHeld.2.2.2.2 sl hb⟩ fun hHeld=> ?_
  clear hb
  clear hK Kc
  try simp only [Act.put,List.setIfInBounds_toArray,List.set_cons_zero,List.set_cons_succ]
  refine clS 6 ⟨some 32,.call ⟨.value (.func 22),#[.tmp 29,.tmp 31],#[44,9]⟩,57,"expr.go:108",#[⟨3,.data⟩,⟨5,.data⟩,⟨5,.chain⟩],none⟩ rfl (by kernel_rfl) (by kernel_rfl) fun Kc hK=> ?_
  go_simp
  refine (zw9 E (nm t) g _ (H0.out.below hHeld.1).imw HG).mono ?_
  rintro e w1 ⟨rfl,hb⟩
  rw [eg]
  refine hK.out _ _ ⟨hHeld.1.trans (hb.mono hHeld.1.size),zza hHeld.1 hHeld.2.1 ul hb,zza hHeld.1 hHeld.2.2.1 sl hb,zza hHeld.1 hHeld.2.2.2.1 sl hb,zza hHeld.1 hHeld.2.2.2.2 sl hb⟩ fun hHeld=> ?_
  clear hb
  clear hK Kc
  try simp only [Act.put,List.setIfInBounds_toArray,List.set_cons_zero,List.set_cons_succ]
  refine tkS 7 ⟨some 25,.move (.tmp 32),57,"expr.go:108",#[⟨6,.data⟩],none⟩ (v:= ?v2_7) hq hHeld rfl (by kernel_rfl) ?y2_7 ?_
  case y2_7=>(intro w h;try dsimp only at h);go_simp<;>with_reducible rfl
  try simp only [Act.put,List.setIfInBounds_toArray,List.set_cons_zero,List.set_cons_succ]
  refine tkS 8 ⟨some 33,.extract (.tmp 25) 0,3,"expr.go:108",#[⟨7,.data⟩],none⟩ (v:= ?v2_8) hq hHeld rfl (by kernel_rfl) ?y2_8 ?_
  case y2_8=>(intro w h;try dsimp only at h);go_simp<;>with_reducible rfl
  try simp only [Act.put,List.setIfInBounds_toArray,List.set_cons_zero,List.set_cons_succ]
  refine tkS 9 ⟨some 34,.extract (.tmp 25) 1,4,"expr.go:108",#[⟨7,.data⟩,{ on:=10,ground:= .gcOnly Departure.lateStores }],none⟩ (v:= ?v2_9) hq hHeld rfl (by kernel_rfl) ?y2_9 ?_
  case y2_9=>(intro w h;try dsimp only at h);go_simp<;>with_reducible rfl
  try simp only [Act.put,List.setIfInBounds_toArray,List.set_cons_zero,List.set_cons_succ]
  refine tkS 10 ⟨some 7,.assign (.tmp 33),3,"expr.go:108",#[⟨8,.data⟩,⟨6,.chain⟩,⟨0,.phase⟩,⟨1,.phase⟩,⟨2,.phase⟩,⟨3,.phase⟩,⟨4,.phase⟩,⟨5,.phase⟩,⟨6,.phase⟩,⟨7,.phase⟩,⟨8,.phase⟩,{ on:=9,ground:= .textOnly Departure.lateStores }],none⟩ (v:= ?v2_10) hq hHeld rfl (by kernel_rfl) ?y2_10 ?_
  case y2_10=>(intro w h;try dsimp only at h);go_simp<;>with_reducible rfl
  try simp only [Act.put,List.setIfInBounds_toArray,List.set_cons_zero,List.set_cons_succ]
  refine tkS 11 ⟨some 8,.assign (.tmp 34),4,"expr.go:108",#[⟨9,.data⟩,⟨10,.chain⟩,⟨0,.phase⟩,⟨1,.phase⟩,⟨2,.phase⟩,⟨3,.phase⟩,⟨4,.phase⟩,⟨5,.phase⟩,⟨6,.phase⟩,⟨7,.phase⟩,⟨8,.phase⟩,⟨9,.phase⟩,⟨10,.phase⟩],none⟩ (v:= ?v2_11) hq hHeld rfl (by kernel_rfl) ?y2_11 ?_
  case y2_11=>(intro w h;try dsimp only at h);go_simp<;>with_reducible rfl
  try simp only [Act.put,List.setIfInBounds_toArray,List.set_cons_zero,List.set_cons_succ]
  refine wpAnyH_done (by kernel_rfl) ?_ _
  have u0:=hHeld.2.1
  have c2:=hHeld.2.2.2.2
  have hh:=hid hHeld.1
  clear hHeld
  cases g with
  |none=>
   simp only [Option.getD_none,Option.isSome_none]
   go_wp2_with fail
   refine (zz2 NN.out H0.out.B false 7 _ hh.out).mono ?_
   rintro e w6 ⟨hb,rfl⟩
   exact ⟨rfl,onB B0.out hh.out hb,by rw [HC.out];rfl⟩
  |some j=>
   simp only [Option.getD_some,Option.isSome_some]
   go_wp2_with fail
   refine (zz2 NN.out H0.out.B false 7 _ hh.out).mono ?_
   rintro e w6 ⟨hb,rfl⟩
   exact ⟨rfl,onB B0.out hh.out hb,by rw [HC.out];rfl⟩
 |false=>
  refine rgS (fun w'=>Below wa.heap.size wa w'∧w'.cell? ⟨w.heap.size,0,none⟩=some (.pointer (some ⟨b,0,none⟩))) (by kernel_rfl) (⟨hh.out.drew,u0⟩) (by repeat first|exact zva|apply zj9) fun hHeld hq=> ?_
  refine tkS 0 ⟨some 16,.load 25 (.tmp 3),25,"expr.go:107",#[],none⟩ (v:= ?v3_0) hq hHeld rfl (by kernel_rfl) ?y3_0 ?_
  case y3_0=>(intro w h;try dsimp only at h);go_simp<;>with_reducible rfl
  try simp only [Act.put,List.setIfInBounds_toArray,List.set_cons_zero,List.set_cons_succ]
  refine tkS 1 ⟨some 17,.move (.tmp 6),4,"expr.go:107",#[],none⟩ (v:= ?v3_1) hq hHeld rfl (by kernel_rfl) ?y3_1 ?_
  case y3_1=>(intro w h;try dsimp only at h);go_simp<;>with_reducible rfl
  try simp only [Act.put,List.setIfInBounds_toArray,List.set_cons_zero,List.set_cons_succ]
  refine tkS 2 ⟨some 18,.move (.tmp 17),4,"expr.go:107",#[⟨1,.data⟩],none⟩ (v:= ?v3_2) hq hHeld rfl (by kernel_rfl) ?y3_2 ?_
  case y3_2=>(intro w h;try dsimp only at h);go_simp<;>with_reducible rfl
  try simp only [Act.put,List.setIfInBounds_toArray,List.set_cons_zero,List.set_cons_succ]
  refine tkS 3 ⟨some 19,.move (.tmp 0),185,"expr.go:107",#[⟨2,.guard⟩],some (2,false)⟩ (v:= ?v3_3) hq hHeld rfl (by kernel_rfl) ?y3_3 ?_
  case y3_3=>(intro w h;try dsimp only at h);go_simp<;>with_reducible rfl
  try simp only [Act.put,List.setIfInBounds_toArray,List.set_cons_zero,List.set_cons_succ]
  refine tkS 4 ⟨some 20,.load 25 (.tmp 3),25,"expr.go:107",#[⟨2,.guard⟩],some (2,false)⟩ (v:= ?v3_4) hq hHeld rfl (by kernel_rfl) ?y3_4 ?_
  case y3_4=>(intro w h;try dsimp only at h);go_simp<;>with_reducible rfl
  try simp only [Act.put,List.setIfInBounds_toArray,List.set_cons_zero,List.set_cons_succ]
  refine clS 5 ⟨some 21,.call ⟨.value (.func 42),#[.tmp 20],#[25]⟩,9,"expr.go:107",#[⟨4,.data⟩,⟨2,.chain⟩,⟨2,.guard⟩],some (2,false)⟩ rfl (by kernel_rfl) (by kernel_rfl) fun Kc hK=> ?_
  go_simp
  refine (zqx NN.out H0.out.B _ hHeld.1).mono ?_
  rintro e w1 ⟨rfl,hb⟩
  refine hK.out _ _ ⟨hHeld.1.trans (hb.mono hHeld.1.size),zza hHeld.1 hHeld.2 ul hb⟩ fun hHeld=> ?_
  clear hb
  clear hK Kc
  try simp only [Act.put,List.setIfInBounds_toArray,List.set_cons_zero,List.set_cons_succ]
  refine clS 6 ⟨some 22,.call ⟨.value (.func 211),#[.tmp 19,.tmp 21],#[185,9]⟩,4,"expr.go:107",#[⟨3,.data⟩,⟨5,.data⟩,⟨5,.chain⟩,⟨2,.guard⟩],some (2,false)⟩ rfl (by kernel_rfl) (by kernel_rfl) fun Kc hK=> ?_
  go_simp
  refine (cdecl_any E v K f (nm t) d _ (H0.out.below hHeld.1) HD).mono ?_
  rintro e w1 ⟨rfl,hb⟩
  refine hK.out _ _ ⟨hHeld.1.trans (hb.mono hHeld.1.size),zza hHeld.1 hHeld.2 ul hb⟩ fun hHeld=> ?_
  clear hb
  clear hK Kc
  try simp only [Act.put,List.setIfInBounds_toArray,List.set_cons_zero,List.set_cons_succ]
  refine tkS 7 ⟨some 23,.pick (.tmp 18) (.const (Value.bool true)) (.tmp 22),4,"expr.go:107",#[⟨2,.data⟩,⟨6,.data⟩],none⟩ (v:= ?v3_7) hq hHeld rfl (by kernel_rfl) ?y3_7 ?_
  case y3_7=>(intro w h;try dsimp only at h);go_simp<;>with_reducible rfl
  try simp only [Act.put,List.setIfInBounds_toArray,List.set_cons_zero,List.set_cons_succ]
  refine clS 8 ⟨some 24,.call ⟨.value (.func 148),#[.tmp 16,.tmp 23,.const (Value.int IntKind.i64 5)],#[25,4,26]⟩,0,"expr.go:107",#[⟨0,.data⟩,⟨7,.data⟩,⟨6,.chain⟩],none⟩ rfl (by kernel_rfl) (by kernel_rfl) fun Kc hK=> ?_
  go_simp
  refine (zz2 NN.out H0.out.B d 5 _ hHeld.1).mono ?_
  rintro e w1 ⟨hb,he⟩
  cases d with
  |false=>obtain rfl:=he;exact ⟨rfl,onB B0.out hHeld.1 hb,by rw [HC.out];cases g<;>rfl⟩
  |true=>
  obtain rfl:=he
  refine hK.out _ _ ⟨hHeld.1.trans (hb.mono hHeld.1.size),zza hHeld.1 hHeld.2 ul hb⟩ fun hHeld=> ?_
  clear hb
  clear hK Kc
  try simp only [Act.put,List.setIfInBounds_toArray,List.set_cons_zero,List.set_cons_succ]
  refine wpAnyH_done (by kernel_rfl) ?_ _
  have u0:=hHeld.2
  have c0:=zza (Below.refl _ _) c0 sl hHeld.1
  have c1:=zza (Below.refl _ _) c1 sl hHeld.1
  have c2:=zza (Below.refl _ _) c2 sl hHeld.1
  go_wp2_with fail
  refine rgS (fun w'=>Below wa.heap.size wa w'∧w'.cell? ⟨w.heap.size,0,none⟩=some (.pointer (some ⟨b,0,none⟩))∧w'.cell? ⟨E.sb,0,none⟩=some (.slice E.sA E.x.structs.length E.sc)∧w'.cell? ⟨E.sb,1,none⟩=some (.slice E.gA E.x.globals.length E.gc)∧w'.cell? ⟨E.sb,2,none⟩=some (.slice E.fA E.x.funs.length E.fc)) (by kernel_rfl) (⟨hHeld.1.drew,u0,c0,c1,c2⟩) (by repeat first|exact zva|apply zj9) fun hHeld hq=> ?_
  refine tkS 0 ⟨some 26,.move (.tmp 0),185,"expr.go:108",#[],none⟩ (v:= ?v4_0) hq hHeld rfl (by kernel_rfl) ?y4_0 ?_
  case y4_0=>(intro w h;try dsimp only at h);go_simp<;>with_reducible rfl
  try simp only [Act.put,List.setIfInBounds_toArray,List.set_cons_zero,List.set_cons_succ]
  refine tkS 1 ⟨some 27,.nilCheck (.tmp 26),0,"expr.go:108",#[⟨0,.data⟩],none⟩ (v:= ?v4_1) hq hHeld rfl (by kernel_rfl) ?y4_1 ?_
  case y4_1=>(intro w h;try dsimp only at h);go_simp<;>with_reducible rfl
  try simp only [Act.put,List.setIfInBounds_toArray,List.set_cons_zero,List.set_cons_succ]
  refine tkS 2 ⟨some 28,.fieldAddr 179 (.tmp 27) 0,0,"expr.go:108",#[⟨1,.data⟩],none⟩ (v:= ?v4_2) hq hHeld rfl (by kernel_rfl) ?y4_2 ?_
  case y4_2=>(intro w h;try dsimp only at h);go_simp<;>with_reducible rfl
  try simp only [Act.put,List.setIfInBounds_toArray,List.set_cons_zero,List.set_cons_succ]
  refine tkS 3 ⟨some 29,.load 44 (.tmp 28),44,"expr.go:108",#[⟨2,.data⟩],none⟩ (v:= ?v4_3) hq hHeld rfl (by kernel_rfl) ?y4_3 ?_
  case y4_3=>(intro w h;try dsimp only at h);go_simp<;>with_reducible rfl
  try simp only [Act.put,List.setIfInBounds_toArray,List.set_cons_zero,List.set_cons_succ]
  refine tkS 4 ⟨some 30,.load 25 (.tmp 3),25,"expr.go:108",#[],none⟩ (v:= ?v4_4) hq hHeld rfl (by kernel_rfl) ?y4_4 ?_
  case y4_4=>(intro w h;try dsimp only at h);go_simp<;>with_reducible rfl
  try simp only [Act.put,List.setIfInBounds_toArray,List.set_cons_zero,List.set_cons_succ]
  refine clS 5 ⟨some 31,.call ⟨.value (.func 42),#[.tmp 30],#[25]⟩,9,"expr.go:108",#[⟨4,.data⟩],none⟩ rfl (by kernel_rfl) (by kernel_rfl) fun Kc hK=> ?_
  go_simp
  refine (zqx NN.out H0.out.B _ hHeld.1).mono ?_
  rintro e w1 ⟨rfl,hb⟩
  refine hK.out _ _ ⟨hHeld.1.trans (hb.mono hHeld.1.size),zza hHeld.1 hHeld.2.1 ul hb,zza hHeld.1 hHeld.2.2.1 sl hb,zza hHeld.1 hHeld.2.2.2.1 sl hb,zza hHeld.1 hHeld.2.2.2.2 sl hb⟩ fun hHeld=> ?_
  clear hb
  clear hK Kc
  try simp only [Act.put,List.setIfInBounds_toArray,List.set_cons_zero,List.set_cons_succ]
  refine clS 6 ⟨some 32,.call ⟨.value (.func 22),#[.tmp 29,.tmp 31],#[44,9]⟩,57,"expr.go:108",#[⟨3,.data⟩,⟨5,.data⟩,⟨5,.chain⟩],none⟩ rfl (by kernel_rfl) (by kernel_rfl) fun Kc hK=> ?_
  go_simp
  refine (zw9 E (nm t) g _ (H0.out.below hHeld.1).imw HG).mono ?_
  rintro e w1 ⟨rfl,hb⟩
  rw [eg]
  refine hK.out _ _ ⟨hHeld.1.trans (hb.mono hHeld.1.size),zza hHeld.1 hHeld.2.1 ul hb,zza hHeld.1 hHeld.2.2.1 sl hb,zza hHeld.1 hHeld.2.2.2.1 sl hb,zza hHeld.1 hHeld.2.2.2.2 sl hb⟩ fun hHeld=> ?_
  clear hb
  clear hK Kc
  try simp only [Act.put,List.setIfInBounds_toArray,List.set_cons_zero,List.set_cons_succ]
  refine tkS 7 ⟨some 25,.move (.tmp 32),57,"expr.go:108",#[⟨6,.data⟩],none⟩ (v:= ?v4_7) hq hHeld rfl (by kernel_rfl) ?y4_7 ?_
  case y4_7=>(intro w h;try dsimp only at h);go_simp<;>with_reducible rfl
  try simp only [Act.put,List.setIfInBounds_toArray,List.set_cons_zero,List.set_cons_succ]
  refine tkS 8 ⟨some 33,.extract (.tmp 25) 0,3,"expr.go:108",#[⟨7,.data⟩],none⟩ (v:= ?v4_8) hq hHeld rfl (by kernel_rfl) ?y4_8 ?_
  case y4_8=>(intro w h;try dsimp only at h);go_simp<;>with_reducible rfl
  try simp only [Act.put,List.setIfInBounds_toArray,List.set_cons_zero,List.set_cons_succ]
  refine tkS 9 ⟨some 34,.extract (.tmp 25) 1,4,"expr.go:108",#[⟨7,.data⟩,{ on:=10,ground:= .gcOnly Departure.lateStores }],none⟩ (v:= ?v4_9) hq hHeld rfl (by kernel_rfl) ?y4_9 ?_
  case y4_9=>(intro w h;try dsimp only at h);go_simp<;>with_reducible rfl
  try simp only [Act.put,List.setIfInBounds_toArray,List.set_cons_zero,List.set_cons_succ]
  refine tkS 10 ⟨some 7,.assign (.tmp 33),3,"expr.go:108",#[⟨8,.data⟩,⟨6,.chain⟩,⟨0,.phase⟩,⟨1,.phase⟩,⟨2,.phase⟩,⟨3,.phase⟩,⟨4,.phase⟩,⟨5,.phase⟩,⟨6,.phase⟩,⟨7,.phase⟩,⟨8,.phase⟩,{ on:=9,ground:= .textOnly Departure.lateStores }],none⟩ (v:= ?v4_10) hq hHeld rfl (by kernel_rfl) ?y4_10 ?_
  case y4_10=>(intro w h;try dsimp only at h);go_simp<;>with_reducible rfl
  try simp only [Act.put,List.setIfInBounds_toArray,List.set_cons_zero,List.set_cons_succ]
  refine tkS 11 ⟨some 8,.assign (.tmp 34),4,"expr.go:108",#[⟨9,.data⟩,⟨10,.chain⟩,⟨0,.phase⟩,⟨1,.phase⟩,⟨2,.phase⟩,⟨3,.phase⟩,⟨4,.phase⟩,⟨5,.phase⟩,⟨6,.phase⟩,⟨7,.phase⟩,⟨8,.phase⟩,⟨9,.phase⟩,⟨10,.phase⟩],none⟩ (v:= ?v4_11) hq hHeld rfl (by kernel_rfl) ?y4_11 ?_
  case y4_11=>(intro w h;try dsimp only at h);go_simp<;>with_reducible rfl
  try simp only [Act.put,List.setIfInBounds_toArray,List.set_cons_zero,List.set_cons_succ]
  refine wpAnyH_done (by kernel_rfl) ?_ _
  have u0:=hHeld.2.1
  have c2:=hHeld.2.2.2.2
  have hh:=hid hHeld.1
  clear hHeld
  cases g with
  |none=>
   simp only [Option.getD_none,Option.isSome_none]
   go_wp2_with fail
   refine (zz2 NN.out H0.out.B false 7 _ hh.out).mono ?_
   rintro e w6 ⟨hb,rfl⟩
   exact ⟨rfl,onB B0.out hh.out hb,by rw [HC.out];rfl⟩
  |some j=>
   simp only [Option.getD_some,Option.isSome_some]
   go_wp2_with fail
   refine (zz2 NN.out H0.out.B true 7 _ hh.out).mono ?_
   rintro e w6 ⟨hb,rfl⟩
   have hjl:=fst_lt HG.out
   have hjc:=H0.out.im.fle
   have hjm:=H0.out.im.fl
   have b6:=hh.out.trans (hb.mono hh.out.size)
   obtain ⟨fb,fo,hfa,hfb,PA,pc,g0,g1,g2,gc,gm,gf⟩:=sg_at H0.out.im.F hjl
   have BB:=(H0.out.below b6).B
   have g0:=(BB.cell (p:=⟨fb,_,none⟩) hfb).trans g0
   have g1:=(BB.cell (p:=⟨fb,_,none⟩) hfb).trans g1
   have g2:=(BB.cell (p:=⟨fb,_,none⟩) hfb).trans g2
   have c2:=zza hh.out c2 sl hb
   have r0:=zza (Below.refl _ _) r0 rl b6
   have r1:=zza (Below.refl _ _) r1 rl b6
   have r2:=zza (Below.refl _ _) r2 rl b6
   have q0:=(b6.frozen (p:=⟨w.heap.size+1,0,none⟩) rl).trans (z0 0)
   have q1:=(b6.frozen (p:=⟨w.heap.size+1,1,none⟩) rl).trans (z0 1)
   have q2:=(b6.frozen (p:=⟨w.heap.size+1,2,none⟩) rl).trans (z0 2)
   rw [hfa] at c2
   have GF:=hid gf
   have GC:=hid gc
   have GM:=hid gm
   have B6:=hid (onB B0.out hh.out hb)
   clear hb u0 c0 c1 hh b6 gf gc gm hfa BB hfb
   have HGO:Hid (zju E.x K t.pos (nm t)= .ok (E.x.funs.getD j sgZ)):=by show _=_;rw [HC.out];simp only [z0a,nd,Bool.or_true,Bool.not_false,if_true]
   generalize E.x.funs.getD j sgZ=G at*
   generalize E.x.funs.length=fm at*
   go_wp2_with fail
   refine bodyPost_ret (v:= .agg #[.string G.name,.slice PA G.params.length pc,.string G.res]) (by simp [results,Tryz.results230,go_sem,r0,r1,r2]) rfl ?_
   have hfin:Below w.heap.size w (((w6.setCell ⟨w.heap.size+1,0,none⟩ (.string G.name)).setCell ⟨w.heap.size+1,1,none⟩ (.slice PA G.params.length pc)).setCell ⟨w.heap.size+1,2,none⟩ (.string G.res)):=((B6.out.setCell (p:=⟨w.heap.size+1,0,none⟩) (Nat.le_succ _) _).setCell (p:=⟨w.heap.size+1,1,none⟩) (Nat.le_succ _) _).setCell (p:=⟨w.heap.size+1,2,none⟩) (Nat.le_succ _) _
   refine ⟨hfin,?_⟩
   rw [HGO.out]
   exact ⟨PA,pc,rfl,GC.out,GM.out,GF.out.below (HB.out.trans (hfin.mono HB.out.size)) (Nat.le_refl _)⟩
def KOk (x:Inf) (K:List Fld):Prop:=∀ f∈K,TyOk x f.typ
def XH (E:CE) (u:Tree):Prop:=∀ (w:World) (v:Value) (K:List Fld) (f b:Nat),SC E w v K f→KOk E.x K→Nd E b u→Calls Tryz.prog 187 #[.pointer (some ⟨E.sb,0,none⟩),.agg #[.pointer (some ⟨b,0,none⟩)]] w (XQ E w (zzt E.x K u))
theorem z3e {a b:ByteArray} {d:Bool} (h:(a.toList==b.data.toList)=d):eqB a b=d:=by rw [ByteArray.toList_eq] at h;exact h
theorem zk7 (n:Nat) (u:Value) (w:World) {P:Ending→World→Prop} (h:Calls Tryz.prog 29 #[u,.int .i64 (n:Nat)] w P) (m:Int) (hm:(n:Int)=m):Calls Tryz.prog 29 #[u,.int .i64 m] w P:=by rw [←hm];exact h
theorem cunary_any (E:CE) (v:Value) (K:List Fld) (f b:Nat) (t u:Tree) (w:World) (H:SC E w v K f) (hKo:KOk E.x K) (N:Nd E b t) (hu:t.kids[0]? =some u) (ih:XH E u):
 Calls Tryz.prog 206 #[.pointer (some ⟨E.sb,0,none⟩),.agg #[.pointer (some ⟨b,0,none⟩)]] w (XQ E w ((zzt E.x K u).bind fun a=>unC t.pos t.n a)):=by
 have B0:=hid (b1 w (.cells #[.pointer (some ⟨b,0,none⟩)] 25))
 have H0:=hid (H.below (b1 w (.cells #[.pointer (some ⟨b,0,none⟩)] 25)))
 have U0:=hid (PtrAt.new w (some ⟨b,0,none⟩))
 have NN:=hid N
 obtain ⟨r,hr⟩:∃ r,zzt E.x K u=r:=⟨_,rfl⟩
 have HR:=hid hr
 have IH:=hid ih
 have HKO:=hid hKo
 obtain ⟨nb,hn,hk⟩:=zx8 N H0.out.B 0 u hu
 have N1:=hid hn
 have HKD:=hid hk
 rw [hr]
 clear H N hr ih hKo hn hk hu
 by_cases h18:t.n=18
 ·have HN:=hid h18
  rw [h18]
  have HU:Hid (unT 18=zjo):=by show _=_;unfold unT;rw [if_pos rfl]
  clear h18
  go_enter Tryz.func206,Tryz.ntmps206
  go_wp2_with fail
  generalize w.alloc (.cells #[.pointer (some ⟨b,0,none⟩)] 25)=wa at*
  have u0:=U0.out.c0
  have ul:=U0.out.lt
  have sl:=H0.out.lt
  have c0:=H0.out.c0
  have c1:=H0.out.c1
  have c2:=H0.out.c2
  refine (cn_at NN.out H0.out.B _ (Below.refl _ _)).mono ?_
  rintro e w1 ⟨rfl,hb⟩
  have u0:=zza (Below.refl _ _) u0 ul hb
  have hh:=hid hb
  clear hb
  rw [HN.out]
  go_wp2_with fail
  refine rgS (fun w'=>Below wa.heap.size wa w'∧w'.cell? ⟨w.heap.size,0,none⟩=some (.pointer (some ⟨b,0,none⟩))) (by kernel_rfl) (⟨hh.out.drew,u0⟩) (by repeat first|exact zva|apply zj9) fun hHeld hq=> ?_
  refine tkS 0 ⟨some 9,.load 25 (.tmp 3),25,"expr.go:118",#[],none⟩ (v:= ?v1_0) hq hHeld rfl (by kernel_rfl) ?y1_0 ?_
  case y1_0=>(intro w h;try dsimp only at h);go_simp<;>with_reducible rfl
  try simp only [Act.put,List.setIfInBounds_toArray,List.set_cons_zero,List.set_cons_succ]
  refine tkS 1 ⟨some 10,.move (.tmp 0),185,"expr.go:118",#[],none⟩ (v:= ?v1_1) hq hHeld rfl (by kernel_rfl) ?y1_1 ?_
  case y1_1=>(intro w h;try dsimp only at h);go_simp<;>with_reducible rfl
  try simp only [Act.put,List.setIfInBounds_toArray,List.set_cons_zero,List.set_cons_succ]
  refine tkS 2 ⟨some 11,.load 25 (.tmp 3),25,"expr.go:118",#[],none⟩ (v:= ?v1_2) hq hHeld rfl (by kernel_rfl) ?y1_2 ?_
  case y1_2=>(intro w h;try dsimp only at h);go_simp<;>with_reducible rfl
  try simp only [Act.put,List.setIfInBounds_toArray,List.set_cons_zero,List.set_cons_succ]
  refine tkS 5 ⟨some 14,.move (.tmp 5),9,"expr.go:118",#[],none⟩ (v:= ?v1_5) hq hHeld rfl (by kernel_rfl) ?y1_5 ?_
  case y1_5=>(intro w h;try dsimp only at h);go_simp<;>with_reducible rfl
  try simp only [Act.put,List.setIfInBounds_toArray,List.set_cons_zero,List.set_cons_succ]
  refine clS 3 ⟨some 12,.call ⟨.value (.func 29),#[.tmp 11,.const (.int .i64 0)],#[25,3]⟩,25,"expr.go:118",#[⟨2,.data⟩],none⟩ rfl (by kernel_rfl) (by kernel_rfl) fun Kc hK=> ?_
  go_simp
  refine (zk7 0 _ _ (HKD.out _ hHeld.1) 0 rfl).mono ?_
  rintro e w1 ⟨rfl,hb⟩
  refine hK.out _ _ ⟨hHeld.1.trans (hb.mono hHeld.1.size),zza hHeld.1 hHeld.2 ul hb⟩ fun hHeld=> ?_
  clear hb
  clear hK Kc
  try simp only [Act.put,List.setIfInBounds_toArray,List.set_cons_zero,List.set_cons_succ]
  refine clS 4 ⟨some 13,.call ⟨.value (.func 187),#[.tmp 10,.tmp 12],#[185,25]⟩,9,"expr.go:118",#[⟨1,.data⟩,⟨3,.data⟩,⟨3,.chain⟩],none⟩ rfl (by kernel_rfl) (by kernel_rfl) fun Kc hK=> ?_
  go_simp
  refine (IH.out _ v K f _ (H0.out.below hHeld.1) HKO.out N1.out).mono ?_
  rw [HR.out]
  rintro e w1 ⟨hb,he⟩
  cases r with
  |bad p er=>obtain rfl:=he;exact ⟨rfl,onB B0.out hHeld.1 hb,rfl⟩
  |ok a=>
  obtain rfl:=he
  obtain ⟨d,hd⟩:∃ d,(a.toList== [98,111,111,108])=d:=⟨_,rfl⟩
  have HD:Hid (eqB a zjo=d):=z3e hd
  refine hK.out _ _ ⟨hHeld.1.trans (hb.mono hHeld.1.size),zza hHeld.1 hHeld.2 ul hb⟩ fun hHeld=> ?_
  clear hb
  clear hK Kc
  try simp only [Act.put,List.setIfInBounds_toArray,List.set_cons_zero,List.set_cons_succ]
  refine tkS 6 ⟨some 15,.binOp .eql 9 (.tmp 13) (.tmp 14) 9,4,"expr.go:118",#[⟨4,.data⟩,⟨5,.data⟩],none⟩ (v:= ?v1_6) hq hHeld rfl (by kernel_rfl) ?y1_6 ?_
  case y1_6=>(intro w h;try dsimp only at h);go_simp<;>with_reducible rfl
  try simp only [Act.put,List.setIfInBounds_toArray,List.set_cons_zero,List.set_cons_succ]
  refine clS 7 ⟨some 16,.call ⟨.value (.func 148),#[.tmp 9,.tmp 15,.const (.int .i64 7)],#[25,4,26]⟩,0,"expr.go:118",#[⟨0,.data⟩,⟨6,.data⟩,⟨4,.chain⟩],none⟩ rfl (by kernel_rfl) (by kernel_rfl) fun Kc hK=> ?_
  go_simp
  refine (zz2 NN.out H0.out.B d 7 _ hHeld.1).mono ?_
  rintro e w1 ⟨hb,he⟩
  cases d with
  |false=>obtain rfl:=he;exact ⟨rfl,onB B0.out hHeld.1 hb,by simp only [CR.bind,unC,HU.out,HD.out];rfl⟩
  |true=>
  obtain rfl:=he
  refine hK.out _ _ ⟨hHeld.1.trans (hb.mono hHeld.1.size),zza hHeld.1 hHeld.2 ul hb⟩ fun hHeld=> ?_
  clear hb
  clear hK Kc
  try simp only [Act.put,List.setIfInBounds_toArray,List.set_cons_zero,List.set_cons_succ]
  refine wpAnyH_done (by kernel_rfl) ?_ _
  go_wp2_with fail
  go_ret
  exact ⟨B0.out.trans (hHeld.1.mono B0.out.size),by simp only [CR.bind,unC,HU.out,HD.out];rfl⟩
 ·have hn18:(t.n==18)=false:=by simpa using h18
  have HU:Hid (unT t.n=tInt):=by show _=_;unfold unT;rw [if_neg h18]
  clear h18
  go_enter Tryz.func206,Tryz.ntmps206
  go_wp2_with fail
  generalize w.alloc (.cells #[.pointer (some ⟨b,0,none⟩)] 25)=wa at*
  have u0:=U0.out.c0
  have ul:=U0.out.lt
  have sl:=H0.out.lt
  have c0:=H0.out.c0
  have c1:=H0.out.c1
  have c2:=H0.out.c2
  refine (cn_at NN.out H0.out.B _ (Below.refl _ _)).mono ?_
  rintro e w1 ⟨rfl,hb⟩
  have u0:=zza (Below.refl _ _) u0 ul hb
  have hh:=hid hb
  clear hb
  go_wp2_with fail
  refine rgS (fun w'=>Below wa.heap.size wa w'∧w'.cell? ⟨w.heap.size,0,none⟩=some (.pointer (some ⟨b,0,none⟩))) (by kernel_rfl) (⟨hh.out.drew,u0⟩) (by repeat first|exact zva|apply zj9) fun hHeld hq=> ?_
  refine tkS 0 ⟨some 9,.load 25 (.tmp 3),25,"expr.go:118",#[],none⟩ (v:= ?v2_0) hq hHeld rfl (by kernel_rfl) ?y2_0 ?_
  case y2_0=>(intro w h;try dsimp only at h);go_simp<;>with_reducible rfl
  try simp only [Act.put,List.setIfInBounds_toArray,List.set_cons_zero,List.set_cons_succ]
  refine tkS 1 ⟨some 10,.move (.tmp 0),185,"expr.go:118",#[],none⟩ (v:= ?v2_1) hq hHeld rfl (by kernel_rfl) ?y2_1 ?_
  case y2_1=>(intro w h;try dsimp only at h);go_simp<;>with_reducible rfl
  try simp only [Act.put,List.setIfInBounds_toArray,List.set_cons_zero,List.set_cons_succ]
  refine tkS 2 ⟨some 11,.load 25 (.tmp 3),25,"expr.go:118",#[],none⟩ (v:= ?v2_2) hq hHeld rfl (by kernel_rfl) ?y2_2 ?_
  case y2_2=>(intro w h;try dsimp only at h);go_simp<;>with_reducible rfl
  try simp only [Act.put,List.setIfInBounds_toArray,List.set_cons_zero,List.set_cons_succ]
  refine tkS 5 ⟨some 14,.move (.tmp 5),9,"expr.go:118",#[],none⟩ (v:= ?v2_5) hq hHeld rfl (by kernel_rfl) ?y2_5 ?_
  case y2_5=>(intro w h;try dsimp only at h);go_simp<;>with_reducible rfl
  try simp only [Act.put,List.setIfInBounds_toArray,List.set_cons_zero,List.set_cons_succ]
  refine clS 3 ⟨some 12,.call ⟨.value (.func 29),#[.tmp 11,.const (.int .i64 0)],#[25,3]⟩,25,"expr.go:118",#[⟨2,.data⟩],none⟩ rfl (by kernel_rfl) (by kernel_rfl) fun Kc hK=> ?_
  go_simp
  refine (zk7 0 _ _ (HKD.out _ hHeld.1) 0 rfl).mono ?_
  rintro e w1 ⟨rfl,hb⟩
  refine hK.out _ _ ⟨hHeld.1.trans (hb.mono hHeld.1.size),zza hHeld.1 hHeld.2 ul hb⟩ fun hHeld=> ?_
  clear hb
  clear hK Kc
  try simp only [Act.put,List.setIfInBounds_toArray,List.set_cons_zero,List.set_cons_succ]
  refine clS 4 ⟨some 13,.call ⟨.value (.func 187),#[.tmp 10,.tmp 12],#[185,25]⟩,9,"expr.go:118",#[⟨1,.data⟩,⟨3,.data⟩,⟨3,.chain⟩],none⟩ rfl (by kernel_rfl) (by kernel_rfl) fun Kc hK=> ?_
  go_simp
  refine (IH.out _ v K f _ (H0.out.below hHeld.1) HKO.out N1.out).mono ?_
  rw [HR.out]
  rintro e w1 ⟨hb,he⟩
  cases r with
  |bad p er=>obtain rfl:=he;exact ⟨rfl,onB B0.out hHeld.1 hb,rfl⟩
  |ok a=>
  obtain rfl:=he
  obtain ⟨d,hd⟩:∃ d,(a.toList== [105,110,116])=d:=⟨_,rfl⟩
  have HD:Hid (eqB a tInt=d):=z3e hd
  refine hK.out _ _ ⟨hHeld.1.trans (hb.mono hHeld.1.size),zza hHeld.1 hHeld.2 ul hb⟩ fun hHeld=> ?_
  clear hb
  clear hK Kc
  try simp only [Act.put,List.setIfInBounds_toArray,List.set_cons_zero,List.set_cons_succ]
  refine tkS 6 ⟨some 15,.binOp .eql 9 (.tmp 13) (.tmp 14) 9,4,"expr.go:118",#[⟨4,.data⟩,⟨5,.data⟩],none⟩ (v:= ?v2_6) hq hHeld rfl (by kernel_rfl) ?y2_6 ?_
  case y2_6=>(intro w h;try dsimp only at h);go_simp<;>with_reducible rfl
  try simp only [Act.put,List.setIfInBounds_toArray,List.set_cons_zero,List.set_cons_succ]
  refine clS 7 ⟨some 16,.call ⟨.value (.func 148),#[.tmp 9,.tmp 15,.const (.int .i64 7)],#[25,4,26]⟩,0,"expr.go:118",#[⟨0,.data⟩,⟨6,.data⟩,⟨4,.chain⟩],none⟩ rfl (by kernel_rfl) (by kernel_rfl) fun Kc hK=> ?_
  go_simp
  refine (zz2 NN.out H0.out.B d 7 _ hHeld.1).mono ?_
  rintro e w1 ⟨hb,he⟩
  cases d with
  |false=>obtain rfl:=he;exact ⟨rfl,onB B0.out hHeld.1 hb,by simp only [CR.bind,unC,HU.out,HD.out];rfl⟩
  |true=>
  obtain rfl:=he
  refine hK.out _ _ ⟨hHeld.1.trans (hb.mono hHeld.1.size),zza hHeld.1 hHeld.2 ul hb⟩ fun hHeld=> ?_
  clear hb
  clear hK Kc
  try simp only [Act.put,List.setIfInBounds_toArray,List.set_cons_zero,List.set_cons_succ]
  refine wpAnyH_done (by kernel_rfl) ?_ _
  go_wp2_with fail
  go_ret
  exact ⟨B0.out.trans (hHeld.1.mono B0.out.size),by simp only [CR.bind,unC,HU.out,HD.out];rfl⟩
theorem cboth_any (E:CE) (v:Value) (K:List Fld) (f b:Nat) (t u u2:Tree) (w:World) (H:SC E w v K f) (hKo:KOk E.x K) (N:Nd E b t) (hu:t.kids[0]? =some u) (hu2:t.kids[1]? =some u2) (ih:XH E u) (ih2:XH E u2):
 Calls Tryz.prog 208 #[.pointer (some ⟨E.sb,0,none⟩),.agg #[.pointer (some ⟨b,0,none⟩)]] w (XQ E w ((zzt E.x K u).bind fun a=>(zzt E.x K u2).bind fun b=>bothC t.pos a b)):=by
 have B0:=hid (b1 w (.cells #[.pointer (some ⟨b,0,none⟩)] 25))
 have H0:=hid (H.below (b1 w (.cells #[.pointer (some ⟨b,0,none⟩)] 25)))
 have U0:=hid (PtrAt.new w (some ⟨b,0,none⟩))
 have NN:=hid N
 obtain ⟨r,hr⟩:∃ r,zzt E.x K u=r:=⟨_,rfl⟩
 obtain ⟨r2,hr2⟩:∃ r,zzt E.x K u2=r:=⟨_,rfl⟩
 have HR:=hid hr
 have HR2:=hid hr2
 have IH:=hid ih
 have IH2:=hid ih2
 have HKO:=hid hKo
 obtain ⟨nb,hn,hk⟩:=zx8 N H0.out.B 0 u hu
 obtain ⟨nb2,hn2,hk2⟩:=zx8 N H0.out.B 1 u2 hu2
 have N1:=hid hn
 have N2:=hid hn2
 have HKD:=hid hk
 have HKD2:=hid hk2
 rw [hr,hr2]
 clear H N hr hr2 ih ih2 hKo hn hn2 hk hk2 hu hu2
 go_enter Tryz.func208,Tryz.ntmps208
 go_wp2_with fail
 generalize w.alloc (.cells #[.pointer (some ⟨b,0,none⟩)] 25)=wa at*
 have u0:=U0.out.c0
 have ul:=U0.out.lt
 have sl:=H0.out.lt
 have c0:=H0.out.c0
 have c1:=H0.out.c1
 have c2:=H0.out.c2
 refine rgS (fun w'=>Below wa.heap.size wa w'∧w'.cell? ⟨w.heap.size,0,none⟩=some (.pointer (some ⟨b,0,none⟩))) (by kernel_rfl) (⟨(Below.refl _ _).drew,u0⟩) (by repeat first|exact zva|apply zj9) fun hHeld hq=> ?_
 refine tkS 0 ⟨some 7,.move (.tmp 0),185,"expr.go:143",#[],none⟩ (v:= ?v1_0) hq hHeld rfl (by kernel_rfl) ?y1_0 ?_
 case y1_0=>(intro w h;try dsimp only at h);go_simp<;>with_reducible rfl
 try simp only [Act.put,List.setIfInBounds_toArray,List.set_cons_zero,List.set_cons_succ]
 refine tkS 1 ⟨some 8,.load 25 (.tmp 3),25,"expr.go:143",#[],none⟩ (v:= ?v1_1) hq hHeld rfl (by kernel_rfl) ?y1_1 ?_
 case y1_1=>(intro w h;try dsimp only at h);go_simp<;>with_reducible rfl
 try simp only [Act.put,List.setIfInBounds_toArray,List.set_cons_zero,List.set_cons_succ]
 refine tkS 4 ⟨some 11,.move (.tmp 0),185,"expr.go:143",#[],none⟩ (v:= ?v1_4) hq hHeld rfl (by kernel_rfl) ?y1_4 ?_
 case y1_4=>(intro w h;try dsimp only at h);go_simp<;>with_reducible rfl
 try simp only [Act.put,List.setIfInBounds_toArray,List.set_cons_zero,List.set_cons_succ]
 refine tkS 5 ⟨some 12,.load 25 (.tmp 3),25,"expr.go:143",#[],none⟩ (v:= ?v1_5) hq hHeld rfl (by kernel_rfl) ?y1_5 ?_
 case y1_5=>(intro w h;try dsimp only at h);go_simp<;>with_reducible rfl
 try simp only [Act.put,List.setIfInBounds_toArray,List.set_cons_zero,List.set_cons_succ]
 refine clS 2 ⟨some 9,.call ⟨.value (.func 29),#[.tmp 8,.const (.int .i64 0)],#[25,3]⟩,25,"expr.go:143",#[⟨1,.data⟩],none⟩ rfl (by kernel_rfl) (by kernel_rfl) fun Kc hK=> ?_
 go_simp
 refine (zk7 0 _ _ (HKD.out _ hHeld.1) 0 rfl).mono ?_
 rintro e w1 ⟨rfl,hb⟩
 refine hK.out _ _ ⟨hHeld.1.trans (hb.mono hHeld.1.size),zza hHeld.1 hHeld.2 ul hb⟩ fun hHeld=> ?_
 clear hb
 clear hK Kc
 try simp only [Act.put,List.setIfInBounds_toArray,List.set_cons_zero,List.set_cons_succ]
 refine clS 3 ⟨some 10,.call ⟨.value (.func 187),#[.tmp 7,.tmp 9],#[185,25]⟩,9,"expr.go:143",#[⟨0,.data⟩,⟨2,.data⟩,⟨2,.chain⟩],none⟩ rfl (by kernel_rfl) (by kernel_rfl) fun Kc hK=> ?_
 go_simp
 refine (IH.out _ v K f _ (H0.out.below hHeld.1) HKO.out N1.out).mono ?_
 rw [HR.out]
 rintro e w1 ⟨hb,he⟩
 cases r with
 |bad p er=>obtain rfl:=he;exact ⟨rfl,onB B0.out hHeld.1 hb,rfl⟩
 |ok a1=>
 obtain rfl:=he
 refine hK.out _ _ ⟨hHeld.1.trans (hb.mono hHeld.1.size),zza hHeld.1 hHeld.2 ul hb⟩ fun hHeld=> ?_
 clear hb
 clear hK Kc
 try simp only [Act.put,List.setIfInBounds_toArray,List.set_cons_zero,List.set_cons_succ]
 refine clS 6 ⟨some 13,.call ⟨.value (.func 29),#[.tmp 12,.const (.int .i64 1)],#[25,3]⟩,25,"expr.go:143",#[⟨5,.data⟩,⟨3,.chain⟩],none⟩ rfl (by kernel_rfl) (by kernel_rfl) fun Kc hK=> ?_
 go_simp
 refine (zk7 1 _ _ (HKD2.out _ hHeld.1) 1 rfl).mono ?_
 rintro e w1 ⟨rfl,hb⟩
 refine hK.out _ _ ⟨hHeld.1.trans (hb.mono hHeld.1.size),zza hHeld.1 hHeld.2 ul hb⟩ fun hHeld=> ?_
 clear hb
 clear hK Kc
 try simp only [Act.put,List.setIfInBounds_toArray,List.set_cons_zero,List.set_cons_succ]
 refine clS 7 ⟨some 14,.call ⟨.value (.func 187),#[.tmp 11,.tmp 13],#[185,25]⟩,9,"expr.go:143",#[⟨4,.data⟩,⟨6,.data⟩,⟨6,.chain⟩],none⟩ rfl (by kernel_rfl) (by kernel_rfl) fun Kc hK=> ?_
 go_simp
 refine (IH2.out _ v K f _ (H0.out.below hHeld.1) HKO.out N2.out).mono ?_
 rw [HR2.out]
 rintro e w1 ⟨hb,he⟩
 cases r2 with
 |bad p er=>obtain rfl:=he;exact ⟨rfl,onB B0.out hHeld.1 hb,rfl⟩
 |ok a2=>
 obtain rfl:=he
 refine hK.out _ _ ⟨hHeld.1.trans (hb.mono hHeld.1.size),zza hHeld.1 hHeld.2 ul hb⟩ fun hHeld=> ?_
 clear hb
 clear hK Kc
 try simp only [Act.put,List.setIfInBounds_toArray,List.set_cons_zero,List.set_cons_succ]
 refine tkS 8 ⟨some 5,.assign (.tmp 10),9,"expr.go:143",#[⟨3,.data⟩,⟨7,.chain⟩,⟨0,.phase⟩,⟨1,.phase⟩,⟨2,.phase⟩,⟨3,.phase⟩,{ on:=4,ground:= .textOnly .lateStores },{ on:=5,ground:= .textOnly .lateStores },{ on:=6,ground:= .textOnly .lateStoresUnsure },{ on:=7,ground:= .textOnly .lateStoresUnsure }],none⟩ (v:= ?v1_8) hq hHeld rfl (by kernel_rfl) ?y1_8 ?_
 case y1_8=>(intro w h;try dsimp only at h);go_simp<;>with_reducible rfl
 try simp only [Act.put,List.setIfInBounds_toArray,List.set_cons_zero,List.set_cons_succ]
 refine tkS 9 ⟨some 6,.assign (.tmp 14),9,"expr.go:143",#[⟨7,.data⟩,⟨8,.chain⟩,⟨0,.phase⟩,⟨1,.phase⟩,⟨2,.phase⟩,⟨3,.phase⟩,⟨4,.phase⟩,⟨5,.phase⟩,⟨6,.phase⟩,⟨7,.phase⟩,⟨8,.phase⟩],none⟩ (v:= ?v1_9) hq hHeld rfl (by kernel_rfl) ?y1_9 ?_
 case y1_9=>(intro w h;try dsimp only at h);go_simp<;>with_reducible rfl
 try simp only [Act.put,List.setIfInBounds_toArray,List.set_cons_zero,List.set_cons_succ]
 refine wpAnyH_done (by kernel_rfl) ?_ _
 obtain ⟨d1,hd1⟩:∃ d,(a1.toList== [98,111,111,108])=d:=⟨_,rfl⟩
 have Hd1:Hid (eqB a1 zjo=d1):=z3e hd1
 obtain ⟨d2,hd2⟩:∃ d,(a2.toList== [98,111,111,108])=d:=⟨_,rfl⟩
 have Hd2:Hid (eqB a2 zjo=d2):=z3e hd2
 have HQ:Hid (bothC t.pos a1 a2=nd t.pos (d1&&d2) 7 (.ok zjo)):=by show _=_;unfold bothC;rw [Hd1.out,Hd2.out]
 have u0:=hHeld.2
 have hh:=hid hHeld.1
 clear hHeld
 have HT:Hid (∀ w6,Below w1.heap.size w1 w6→XQ E w (bothC t.pos a1 a2) (if d1&&d2 then .returned (.string zjo) else cfE (E.pl t.pos) 7) w6):=fun w6 hb=>⟨onB B0.out hh.out hb,by rw [HQ.out];cases d1<;>cases d2<;>rfl⟩
 cases d1 with
 |false=>
  go_wp2_with fail
  refine (zz2 NN.out H0.out.B false 7 _ hh.out).mono ?_
  rintro e w6 ⟨hb,rfl⟩
  exact ⟨rfl,HT.out _ hb⟩
 |true=>
  go_wp2_with fail
  refine (zz2 NN.out H0.out.B d2 7 _ hh.out).mono ?_
  rintro e w6 ⟨hb,he⟩
  cases d2 with
  |false=>obtain rfl:=he;exact ⟨rfl,HT.out _ hb⟩
  |true=>
   obtain rfl:=he
   go_wp2_with fail
   go_ret
   exact HT.out _ hb
theorem cbinary_any (E:CE) (v:Value) (K:List Fld) (f b:Nat) (t u u2:Tree) (w:World) (H:SC E w v K f) (hKo:KOk E.x K) (N:Nd E b t) (hu:t.kids[0]? =some u) (hu2:t.kids[1]? =some u2) (ih:XH E u) (ih2:XH E u2):
 Calls Tryz.prog 207 #[.pointer (some ⟨E.sb,0,none⟩),.agg #[.pointer (some ⟨b,0,none⟩)]] w (XQ E w ((zzt E.x K u).bind fun a=>(zzt E.x K u2).bind fun b=>binC t.pos t.n a b)):=by
 have B0:=hid (b1 w (.cells #[.pointer (some ⟨b,0,none⟩)] 25))
 have H0:=hid (H.below (b1 w (.cells #[.pointer (some ⟨b,0,none⟩)] 25)))
 have U0:=hid (PtrAt.new w (some ⟨b,0,none⟩))
 have NN:=hid N
 obtain ⟨r,hr⟩:∃ r,zzt E.x K u=r:=⟨_,rfl⟩
 obtain ⟨r2,hr2⟩:∃ r,zzt E.x K u2=r:=⟨_,rfl⟩
 have HR:=hid hr
 have HR2:=hid hr2
 have IH:=hid ih
 have IH2:=hid ih2
 have HKO:=hid hKo
 obtain ⟨nb,hn,hk⟩:=zx8 N H0.out.B 0 u hu
 obtain ⟨nb2,hn2,hk2⟩:=zx8 N H0.out.B 1 u2 hu2
 have N1:=hid hn
 have N2:=hid hn2
 have HKD:=hid hk
 have HKD2:=hid hk2
 rw [hr,hr2]
 clear H N hr hr2 ih ih2 hKo hn hn2 hk hk2 hu hu2
 go_enter Tryz.func207,Tryz.ntmps207
 go_wp2_with fail
 generalize w.alloc (.cells #[.pointer (some ⟨b,0,none⟩)] 25)=wa at*
 have u0:=U0.out.c0
 have ul:=U0.out.lt
 have sl:=H0.out.lt
 have c0:=H0.out.c0
 have c1:=H0.out.c1
 have c2:=H0.out.c2
 refine rgS (fun w'=>Below wa.heap.size wa w'∧w'.cell? ⟨w.heap.size,0,none⟩=some (.pointer (some ⟨b,0,none⟩))) (by kernel_rfl) (⟨(Below.refl _ _).drew,u0⟩) (by repeat first|exact zva|apply zj9) fun hHeld hq=> ?_
 refine tkS 0 ⟨some 9,.move (.tmp 0),185,"expr.go:123",#[],none⟩ (v:= ?v2_0) hq hHeld rfl (by kernel_rfl) ?y2_0 ?_
 case y2_0=>(intro w h;try dsimp only at h);go_simp<;>with_reducible rfl
 try simp only [Act.put,List.setIfInBounds_toArray,List.set_cons_zero,List.set_cons_succ]
 refine tkS 1 ⟨some 10,.load 25 (.tmp 3),25,"expr.go:123",#[],none⟩ (v:= ?v2_1) hq hHeld rfl (by kernel_rfl) ?y2_1 ?_
 case y2_1=>(intro w h;try dsimp only at h);go_simp<;>with_reducible rfl
 try simp only [Act.put,List.setIfInBounds_toArray,List.set_cons_zero,List.set_cons_succ]
 refine tkS 4 ⟨some 13,.move (.tmp 0),185,"expr.go:123",#[],none⟩ (v:= ?v2_4) hq hHeld rfl (by kernel_rfl) ?y2_4 ?_
 case y2_4=>(intro w h;try dsimp only at h);go_simp<;>with_reducible rfl
 try simp only [Act.put,List.setIfInBounds_toArray,List.set_cons_zero,List.set_cons_succ]
 refine tkS 5 ⟨some 14,.load 25 (.tmp 3),25,"expr.go:123",#[],none⟩ (v:= ?v2_5) hq hHeld rfl (by kernel_rfl) ?y2_5 ?_
 case y2_5=>(intro w h;try dsimp only at h);go_simp<;>with_reducible rfl
 try simp only [Act.put,List.setIfInBounds_toArray,List.set_cons_zero,List.set_cons_succ]
 refine clS 2 ⟨some 11,.call ⟨.value (.func 29),#[.tmp 10,.const (.int .i64 0)],#[25,3]⟩,25,"expr.go:123",#[⟨1,.data⟩],none⟩ rfl (by kernel_rfl) (by kernel_rfl) fun Kc hK=> ?_
 go_simp
 refine (zk7 0 _ _ (HKD.out _ hHeld.1) 0 rfl).mono ?_
 rintro e w1 ⟨rfl,hb⟩
 refine hK.out _ _ ⟨hHeld.1.trans (hb.mono hHeld.1.size),zza hHeld.1 hHeld.2 ul hb⟩ fun hHeld=> ?_
 clear hb
 clear hK Kc
 try simp only [Act.put,List.setIfInBounds_toArray,List.set_cons_zero,List.set_cons_succ]
 refine clS 3 ⟨some 12,.call ⟨.value (.func 187),#[.tmp 9,.tmp 11],#[185,25]⟩,9,"expr.go:123",#[⟨0,.data⟩,⟨2,.data⟩,⟨2,.chain⟩],none⟩ rfl (by kernel_rfl) (by kernel_rfl) fun Kc hK=> ?_
 go_simp
 refine (IH.out _ v K f _ (H0.out.below hHeld.1) HKO.out N1.out).mono ?_
 rw [HR.out]
 rintro e w1 ⟨hb,he⟩
 cases r with
 |bad p er=>obtain rfl:=he;exact ⟨rfl,onB B0.out hHeld.1 hb,rfl⟩
 |ok a1=>
 obtain rfl:=he
 refine hK.out _ _ ⟨hHeld.1.trans (hb.mono hHeld.1.size),zza hHeld.1 hHeld.2 ul hb⟩ fun hHeld=> ?_
 clear hb
 clear hK Kc
 try simp only [Act.put,List.setIfInBounds_toArray,List.set_cons_zero,List.set_cons_succ]
 refine clS 6 ⟨some 15,.call ⟨.value (.func 29),#[.tmp 14,.const (.int .i64 1)],#[25,3]⟩,25,"expr.go:123",#[⟨5,.data⟩,⟨3,.chain⟩],none⟩ rfl (by kernel_rfl) (by kernel_rfl) fun Kc hK=> ?_
 go_simp
 refine (zk7 1 _ _ (HKD2.out _ hHeld.1) 1 rfl).mono ?_
 rintro e w1 ⟨rfl,hb⟩
 refine hK.out _ _ ⟨hHeld.1.trans (hb.mono hHeld.1.size),zza hHeld.1 hHeld.2 ul hb⟩ fun hHeld=> ?_
 clear hb
 clear hK Kc
 try simp only [Act.put,List.setIfInBounds_toArray,List.set_cons_zero,List.set_cons_succ]
 refine clS 7 ⟨some 16,.call ⟨.value (.func 187),#[.tmp 13,.tmp 15],#[185,25]⟩,9,"expr.go:123",#[⟨4,.data⟩,⟨6,.data⟩,⟨6,.chain⟩],none⟩ rfl (by kernel_rfl) (by kernel_rfl) fun Kc hK=> ?_
 go_simp
 refine (IH2.out _ v K f _ (H0.out.below hHeld.1) HKO.out N2.out).mono ?_
 rw [HR2.out]
 rintro e w1 ⟨hb,he⟩
 cases r2 with
 |bad p er=>obtain rfl:=he;exact ⟨rfl,onB B0.out hHeld.1 hb,rfl⟩
 |ok a2=>
 obtain rfl:=he
 refine hK.out _ _ ⟨hHeld.1.trans (hb.mono hHeld.1.size),zza hHeld.1 hHeld.2 ul hb⟩ fun hHeld=> ?_
 clear hb
 clear hK Kc
 try simp only [Act.put,List.setIfInBounds_toArray,List.set_cons_zero,List.set_cons_succ]
 refine tkS 8 ⟨some 5,.assign (.tmp 12),9,"expr.go:123",#[⟨3,.data⟩,⟨7,.chain⟩,⟨0,.phase⟩,⟨1,.phase⟩,⟨2,.phase⟩,⟨3,.phase⟩,{ on:=4,ground:= .textOnly .lateStores },{ on:=5,ground:= .textOnly .lateStores },{ on:=6,ground:= .textOnly .lateStoresUnsure },{ on:=7,ground:= .textOnly .lateStoresUnsure }],none⟩ (v:= ?v2_8) hq hHeld rfl (by kernel_rfl) ?y2_8 ?_
 case y2_8=>(intro w h;try dsimp only at h);go_simp<;>with_reducible rfl
 try simp only [Act.put,List.setIfInBounds_toArray,List.set_cons_zero,List.set_cons_succ]
 refine tkS 9 ⟨some 6,.assign (.tmp 16),9,"expr.go:123",#[⟨7,.data⟩,⟨8,.chain⟩,⟨0,.phase⟩,⟨1,.phase⟩,⟨2,.phase⟩,⟨3,.phase⟩,⟨4,.phase⟩,⟨5,.phase⟩,⟨6,.phase⟩,⟨7,.phase⟩,⟨8,.phase⟩],none⟩ (v:= ?v2_9) hq hHeld rfl (by kernel_rfl) ?y2_9 ?_
 case y2_9=>(intro w h;try dsimp only at h);go_simp<;>with_reducible rfl
 try simp only [Act.put,List.setIfInBounds_toArray,List.set_cons_zero,List.set_cons_succ]
 refine wpAnyH_done (by kernel_rfl) ?_ _
 obtain ⟨d1,hd1⟩:∃ d,(a1.toList== [105,110,116])=d:=⟨_,rfl⟩
 have Hd1:Hid (eqB a1 tInt=d1):=z3e hd1
 obtain ⟨d2,hd2⟩:∃ d,(a2.toList== [105,110,116])=d:=⟨_,rfl⟩
 have Hd2:Hid (eqB a2 tInt=d2):=z3e hd2
 obtain ⟨e1,he1⟩:∃ d,(t.n==11)=d:=⟨_,rfl⟩
 obtain ⟨e2,he2⟩:∃ d,(t.n==12)=d:=⟨_,rfl⟩
 obtain ⟨m,hm⟩:∃ d,eqMay a1 a2=d:=⟨_,rfl⟩
 have HMM:=hid hm
 have HO:Hid (binOk t.n a1 a2=(d1&&d2||(e1||e2)&&m)):=by show _=_;unfold binOk;rw [Hd1.out,Hd2.out,he1,he2,hm]
 have u0:=hHeld.2
 have hh:=hid hHeld.1
 clear hHeld hm
 go_upto_region 2 with fail
 go_cut [7] from 9 (fun s wc=>s= .bool (d1&&d2)∧wc=w1)
 case first=>
  cases d1<;>cases d2<;>(go_wp2_with fail;go_meet;case rel=>exact ⟨rfl,rfl⟩)
 case rest=>
 obtain ⟨rfl,rfl⟩:=hcut
 generalize (d1&&d2)=A at*
 clear hd1 hd2 Hd1 Hd2
 go_upto_region 3 with fail
 go_cut [8] from 9 (fun s wd=>s= .bool (e1||e2)∧Below wa.heap.size wa wd∧wd.cell? ⟨w.heap.size,0,none⟩=some (.pointer (some ⟨b,0,none⟩)))
 case first=>
  go_wp2_with fail
  refine (cn_at NN.out H0.out.B _ hh.out).mono ?_
  rintro e w3 ⟨rfl,hb⟩
  have u0:=zza hh.out u0 ul hb
  have hh:=hid (hh.out.trans (hb.mono hh.out.size))
  clear hb
  cases e1 with
  |true=>
   go_wp2_with fail
   go_meet
   case rel=>exact ⟨rfl,hh.out,u0⟩
  |false=>
   go_wp2_with fail
   refine (cn_at NN.out H0.out.B _ hh.out).mono ?_
   rintro e w4 ⟨rfl,hb⟩
   have u0:=zza hh.out u0 ul hb
   have hh:=hid (hh.out.trans (hb.mono hh.out.size))
   clear hb
   cases e2<;>(go_wp2_with fail;go_meet;case rel=>exact ⟨rfl,hh.out,u0⟩)
 case rest=>
 obtain ⟨rfl,hh,u0⟩:=hcut
 have hh:=hid hh
 generalize (e1||e2)=Q at*
 clear he1 he2
 go_upto_region 4 with fail
 go_cut [] from 9 (fun we=>Below wa.heap.size wa we∧we.cell? ⟨w.heap.size,0,none⟩=some (.pointer (some ⟨b,0,none⟩))∧Hid (binOk t.n a1 a2=true))
 case first=>
  cases A with
  |true=>
   refine rgS (fun w'=>Below wa.heap.size wa w'∧w'.cell? ⟨w.heap.size,0,none⟩=some (.pointer (some ⟨b,0,none⟩))) (by kernel_rfl) (⟨hh.out.drew,u0⟩) (by repeat first|exact zva|apply zj9) fun hHeld hq=> ?_
   refine tkS 0 ⟨some 31,.load 25 (.tmp 3),25,"expr.go:126",#[],none⟩ (v:= ?v3_0) hq hHeld rfl (by kernel_rfl) ?y3_0 ?_
   case y3_0=>(intro w h;try dsimp only at h);go_simp<;>with_reducible rfl
   try simp only [Act.put,List.setIfInBounds_toArray,List.set_cons_zero,List.set_cons_succ]
   refine tkS 1 ⟨some 32,.move (.tmp 7),4,"expr.go:126",#[],none⟩ (v:= ?v3_1) hq hHeld rfl (by kernel_rfl) ?y3_1 ?_
   case y3_1=>(intro w h;try dsimp only at h);go_simp<;>with_reducible rfl
   try simp only [Act.put,List.setIfInBounds_toArray,List.set_cons_zero,List.set_cons_succ]
   refine tkS 2 ⟨some 33,.move (.tmp 32),4,"expr.go:126",#[⟨1,.data⟩],none⟩ (v:= ?v3_2) hq hHeld rfl (by kernel_rfl) ?y3_2 ?_
   case y3_2=>(intro w h;try dsimp only at h);go_simp<;>with_reducible rfl
   try simp only [Act.put,List.setIfInBounds_toArray,List.set_cons_zero,List.set_cons_succ]
   refine skS 3 ⟨some 34,.move (.tmp 8),4,"expr.go:126",#[⟨2,.guard⟩],some (2,false)⟩ hq hHeld rfl (by kernel_rfl) ?_
   try simp only [Act.put,List.setIfInBounds_toArray,List.set_cons_zero,List.set_cons_succ]
   refine skS 4 ⟨some 35,.move (.tmp 34),4,"expr.go:126",#[⟨3,.data⟩,⟨2,.chain⟩,⟨2,.guard⟩],some (2,false)⟩ hq hHeld rfl (by kernel_rfl) ?_
   try simp only [Act.put,List.setIfInBounds_toArray,List.set_cons_zero,List.set_cons_succ]
   refine skS 5 ⟨some 36,.move (.tmp 5),9,"expr.go:126",#[⟨4,.guard⟩],some (4,true)⟩ hq hHeld rfl (by kernel_rfl) ?_
   try simp only [Act.put,List.setIfInBounds_toArray,List.set_cons_zero,List.set_cons_succ]
   refine skS 6 ⟨some 37,.move (.tmp 6),9,"expr.go:126",#[⟨4,.guard⟩],some (4,true)⟩ hq hHeld rfl (by kernel_rfl) ?_
   try simp only [Act.put,List.setIfInBounds_toArray,List.set_cons_zero,List.set_cons_succ]
   refine skS 7 ⟨some 38,.call ⟨.value (.func 231),#[.tmp 36,.tmp 37],#[9,9]⟩,4,"expr.go:126",#[⟨5,.data⟩,⟨6,.data⟩,⟨4,.chain⟩,⟨4,.guard⟩],some (4,true)⟩ hq hHeld rfl (by kernel_rfl) ?_
   try simp only [Act.put,List.setIfInBounds_toArray,List.set_cons_zero,List.set_cons_succ]
   refine skS 8 ⟨some 39,.pick (.tmp 35) (.tmp 38) (.const (.bool false)),4,"expr.go:126",#[⟨4,.data⟩,⟨7,.data⟩,⟨2,.guard⟩],some (2,false)⟩ hq hHeld rfl (by kernel_rfl) ?_
   try simp only [Act.put,List.setIfInBounds_toArray,List.set_cons_zero,List.set_cons_succ]
   refine tkS 9 ⟨some 40,.pick (.tmp 33) (.const (.bool true)) (.tmp 39),4,"expr.go:126",#[⟨2,.data⟩,⟨8,.data⟩],none⟩ (v:= ?v3_9) hq hHeld rfl (by kernel_rfl) ?y3_9 ?_
   case y3_9=>(intro w h;try dsimp only at h);go_simp<;>with_reducible rfl
   try simp only [Act.put,List.setIfInBounds_toArray,List.set_cons_zero,List.set_cons_succ]
   refine clS 10 ⟨some 41,.call ⟨.value (.func 148),#[.tmp 31,.tmp 40,.const (.int .i64 7)],#[25,4,26]⟩,0,"expr.go:126",#[⟨0,.data⟩,⟨9,.data⟩,⟨7,.chain⟩],none⟩ rfl (by kernel_rfl) (by kernel_rfl) fun Kc hK=> ?_
   go_simp
   refine (zz2 NN.out H0.out.B true 7 _ hHeld.1).mono ?_
   rintro e w1 ⟨hb,rfl⟩
   refine hK.out _ _ ⟨hHeld.1.trans (hb.mono hHeld.1.size),zza hHeld.1 hHeld.2 ul hb⟩ fun hHeld=> ?_
   clear hb
   clear hK Kc
   try simp only [Act.put,List.setIfInBounds_toArray,List.set_cons_zero,List.set_cons_succ]
   refine wpAnyH_done (by kernel_rfl) ?_ _
   go_wp2_with fail
   go_meet
   case rel=>exact ⟨hHeld.1,hHeld.2,HO.out⟩
  |false=>
   cases Q with
   |true=>
    refine rgS (fun w'=>Below wa.heap.size wa w'∧w'.cell? ⟨w.heap.size,0,none⟩=some (.pointer (some ⟨b,0,none⟩))) (by kernel_rfl) (⟨hh.out.drew,u0⟩) (by repeat first|exact zva|apply zj9) fun hHeld hq=> ?_
    refine tkS 0 ⟨some 31,.load 25 (.tmp 3),25,"expr.go:126",#[],none⟩ (v:= ?v4_0) hq hHeld rfl (by kernel_rfl) ?y4_0 ?_
    case y4_0=>(intro w h;try dsimp only at h);go_simp<;>with_reducible rfl
    try simp only [Act.put,List.setIfInBounds_toArray,List.set_cons_zero,List.set_cons_succ]
    refine tkS 1 ⟨some 32,.move (.tmp 7),4,"expr.go:126",#[],none⟩ (v:= ?v4_1) hq hHeld rfl (by kernel_rfl) ?y4_1 ?_
    case y4_1=>(intro w h;try dsimp only at h);go_simp<;>with_reducible rfl
    try simp only [Act.put,List.setIfInBounds_toArray,List.set_cons_zero,List.set_cons_succ]
    refine tkS 2 ⟨some 33,.move (.tmp 32),4,"expr.go:126",#[⟨1,.data⟩],none⟩ (v:= ?v4_2) hq hHeld rfl (by kernel_rfl) ?y4_2 ?_
    case y4_2=>(intro w h;try dsimp only at h);go_simp<;>with_reducible rfl
    try simp only [Act.put,List.setIfInBounds_toArray,List.set_cons_zero,List.set_cons_succ]
    refine tkS 3 ⟨some 34,.move (.tmp 8),4,"expr.go:126",#[⟨2,.guard⟩],some (2,false)⟩ (v:= ?v4_3) hq hHeld rfl (by kernel_rfl) ?y4_3 ?_
    case y4_3=>(intro w h;try dsimp only at h);go_simp<;>with_reducible rfl
    try simp only [Act.put,List.setIfInBounds_toArray,List.set_cons_zero,List.set_cons_succ]
    refine tkS 4 ⟨some 35,.move (.tmp 34),4,"expr.go:126",#[⟨3,.data⟩,⟨2,.chain⟩,⟨2,.guard⟩],some (2,false)⟩ (v:= ?v4_4) hq hHeld rfl (by kernel_rfl) ?y4_4 ?_
    case y4_4=>(intro w h;try dsimp only at h);go_simp<;>with_reducible rfl
    try simp only [Act.put,List.setIfInBounds_toArray,List.set_cons_zero,List.set_cons_succ]
    refine tkS 5 ⟨some 36,.move (.tmp 5),9,"expr.go:126",#[⟨4,.guard⟩],some (4,true)⟩ (v:= ?v4_5) hq hHeld rfl (by kernel_rfl) ?y4_5 ?_
    case y4_5=>(intro w h;try dsimp only at h);go_simp<;>with_reducible rfl
    try simp only [Act.put,List.setIfInBounds_toArray,List.set_cons_zero,List.set_cons_succ]
    refine tkS 6 ⟨some 37,.move (.tmp 6),9,"expr.go:126",#[⟨4,.guard⟩],some (4,true)⟩ (v:= ?v4_6) hq hHeld rfl (by kernel_rfl) ?y4_6 ?_
    case y4_6=>(intro w h;try dsimp only at h);go_simp<;>with_reducible rfl
    try simp only [Act.put,List.setIfInBounds_toArray,List.set_cons_zero,List.set_cons_succ]
    refine clS 7 ⟨some 38,.call ⟨.value (.func 231),#[.tmp 36,.tmp 37],#[9,9]⟩,4,"expr.go:126",#[⟨5,.data⟩,⟨6,.data⟩,⟨4,.chain⟩,⟨4,.guard⟩],some (4,true)⟩ rfl (by kernel_rfl) (by kernel_rfl) fun Kc hK=> ?_
    go_simp
    refine (sameB (cmayEq_any a1 a2 m _ (hid (H0.out.below hHeld.1).imw.good.keys) HMM)).mono ?_
    rintro e w1 ⟨rfl,hb⟩
    refine hK.out _ _ ⟨hHeld.1.trans (hb.mono hHeld.1.size),zza hHeld.1 hHeld.2 ul hb⟩ fun hHeld=> ?_
    clear hb
    clear hK Kc
    try simp only [Act.put,List.setIfInBounds_toArray,List.set_cons_zero,List.set_cons_succ]
    refine tkS 8 ⟨some 39,.pick (.tmp 35) (.tmp 38) (.const (.bool false)),4,"expr.go:126",#[⟨4,.data⟩,⟨7,.data⟩,⟨2,.guard⟩],some (2,false)⟩ (v:= ?v4_8) hq hHeld rfl (by kernel_rfl) ?y4_8 ?_
    case y4_8=>(intro w h;try dsimp only at h);go_simp<;>with_reducible rfl
    try simp only [Act.put,List.setIfInBounds_toArray,List.set_cons_zero,List.set_cons_succ]
    refine tkS 9 ⟨some 40,.pick (.tmp 33) (.const (.bool true)) (.tmp 39),4,"expr.go:126",#[⟨2,.data⟩,⟨8,.data⟩],none⟩ (v:= ?v4_9) hq hHeld rfl (by kernel_rfl) ?y4_9 ?_
    case y4_9=>(intro w h;try dsimp only at h);go_simp<;>with_reducible rfl
    try simp only [Act.put,List.setIfInBounds_toArray,List.set_cons_zero,List.set_cons_succ]
    refine clS 10 ⟨some 41,.call ⟨.value (.func 148),#[.tmp 31,.tmp 40,.const (.int .i64 7)],#[25,4,26]⟩,0,"expr.go:126",#[⟨0,.data⟩,⟨9,.data⟩,⟨7,.chain⟩],none⟩ rfl (by kernel_rfl) (by kernel_rfl) fun Kc hK=> ?_
    go_simp
    refine (zz2 NN.out H0.out.B m 7 _ hHeld.1).mono ?_
    rintro e w1 ⟨hb,he⟩
    cases m with
    |false=>obtain rfl:=he;exact ⟨rfl,onB B0.out hHeld.1 hb,by simp only [CR.bind,binC,HO.out];rfl⟩
    |true=>
    obtain rfl:=he
    refine hK.out _ _ ⟨hHeld.1.trans (hb.mono hHeld.1.size),zza hHeld.1 hHeld.2 ul hb⟩ fun hHeld=> ?_
    clear hb
    clear hK Kc
    try simp only [Act.put,List.setIfInBounds_toArray,List.set_cons_zero,List.set_cons_succ]
    refine wpAnyH_done (by kernel_rfl) ?_ _
    go_wp2_with fail
    go_meet
    case rel=>exact ⟨hHeld.1,hHeld.2,HO.out⟩
   |false=>
    refine rgS (fun w'=>Below wa.heap.size wa w'∧w'.cell? ⟨w.heap.size,0,none⟩=some (.pointer (some ⟨b,0,none⟩))) (by kernel_rfl) (⟨hh.out.drew,u0⟩) (by repeat first|exact zva|apply zj9) fun hHeld hq=> ?_
    refine tkS 0 ⟨some 31,.load 25 (.tmp 3),25,"expr.go:126",#[],none⟩ (v:= ?v5_0) hq hHeld rfl (by kernel_rfl) ?y5_0 ?_
    case y5_0=>(intro w h;try dsimp only at h);go_simp<;>with_reducible rfl
    try simp only [Act.put,List.setIfInBounds_toArray,List.set_cons_zero,List.set_cons_succ]
    refine tkS 1 ⟨some 32,.move (.tmp 7),4,"expr.go:126",#[],none⟩ (v:= ?v5_1) hq hHeld rfl (by kernel_rfl) ?y5_1 ?_
    case y5_1=>(intro w h;try dsimp only at h);go_simp<;>with_reducible rfl
    try simp only [Act.put,List.setIfInBounds_toArray,List.set_cons_zero,List.set_cons_succ]
    refine tkS 2 ⟨some 33,.move (.tmp 32),4,"expr.go:126",#[⟨1,.data⟩],none⟩ (v:= ?v5_2) hq hHeld rfl (by kernel_rfl) ?y5_2 ?_
    case y5_2=>(intro w h;try dsimp only at h);go_simp<;>with_reducible rfl
    try simp only [Act.put,List.setIfInBounds_toArray,List.set_cons_zero,List.set_cons_succ]
    refine tkS 3 ⟨some 34,.move (.tmp 8),4,"expr.go:126",#[⟨2,.guard⟩],some (2,false)⟩ (v:= ?v5_3) hq hHeld rfl (by kernel_rfl) ?y5_3 ?_
    case y5_3=>(intro w h;try dsimp only at h);go_simp<;>with_reducible rfl
    try simp only [Act.put,List.setIfInBounds_toArray,List.set_cons_zero,List.set_cons_succ]
    refine tkS 4 ⟨some 35,.move (.tmp 34),4,"expr.go:126",#[⟨3,.data⟩,⟨2,.chain⟩,⟨2,.guard⟩],some (2,false)⟩ (v:= ?v5_4) hq hHeld rfl (by kernel_rfl) ?y5_4 ?_
    case y5_4=>(intro w h;try dsimp only at h);go_simp<;>with_reducible rfl
    try simp only [Act.put,List.setIfInBounds_toArray,List.set_cons_zero,List.set_cons_succ]
    refine skS 5 ⟨some 36,.move (.tmp 5),9,"expr.go:126",#[⟨4,.guard⟩],some (4,true)⟩ hq hHeld rfl (by kernel_rfl) ?_
    try simp only [Act.put,List.setIfInBounds_toArray,List.set_cons_zero,List.set_cons_succ]
    refine skS 6 ⟨some 37,.move (.tmp 6),9,"expr.go:126",#[⟨4,.guard⟩],some (4,true)⟩ hq hHeld rfl (by kernel_rfl) ?_
    try simp only [Act.put,List.setIfInBounds_toArray,List.set_cons_zero,List.set_cons_succ]
    refine skS 7 ⟨some 38,.call ⟨.value (.func 231),#[.tmp 36,.tmp 37],#[9,9]⟩,4,"expr.go:126",#[⟨5,.data⟩,⟨6,.data⟩,⟨4,.chain⟩,⟨4,.guard⟩],some (4,true)⟩ hq hHeld rfl (by kernel_rfl) ?_
    try simp only [Act.put,List.setIfInBounds_toArray,List.set_cons_zero,List.set_cons_succ]
    refine tkS 8 ⟨some 39,.pick (.tmp 35) (.tmp 38) (.const (.bool false)),4,"expr.go:126",#[⟨4,.data⟩,⟨7,.data⟩,⟨2,.guard⟩],some (2,false)⟩ (v:= ?v5_8) hq hHeld rfl (by kernel_rfl) ?y5_8 ?_
    case y5_8=>(intro w h;try dsimp only at h);go_simp<;>with_reducible rfl
    try simp only [Act.put,List.setIfInBounds_toArray,List.set_cons_zero,List.set_cons_succ]
    refine tkS 9 ⟨some 40,.pick (.tmp 33) (.const (.bool true)) (.tmp 39),4,"expr.go:126",#[⟨2,.data⟩,⟨8,.data⟩],none⟩ (v:= ?v5_9) hq hHeld rfl (by kernel_rfl) ?y5_9 ?_
    case y5_9=>(intro w h;try dsimp only at h);go_simp<;>with_reducible rfl
    try simp only [Act.put,List.setIfInBounds_toArray,List.set_cons_zero,List.set_cons_succ]
    refine clS 10 ⟨some 41,.call ⟨.value (.func 148),#[.tmp 31,.tmp 40,.const (.int .i64 7)],#[25,4,26]⟩,0,"expr.go:126",#[⟨0,.data⟩,⟨9,.data⟩,⟨7,.chain⟩],none⟩ rfl (by kernel_rfl) (by kernel_rfl) fun Kc hK=> ?_
    go_simp
    refine (zz2 NN.out H0.out.B false 7 _ hHeld.1).mono ?_
    rintro e w1 ⟨hb,rfl⟩
    exact ⟨rfl,onB B0.out hHeld.1 hb,by simp only [CR.bind,binC,HO.out];rfl⟩
 case rest=>
 obtain ⟨hh,u0,HOK⟩:=hcut
 have hh:=hid hh
 obtain ⟨lv,hlv⟩:∃ d,(z0r t.n==z0r 11)=d:=⟨_,rfl⟩
 have HT:Hid (binT t.n=if lv then zjo else tInt):=by show _=_;unfold binT;rw [←hlv,show z0r 11=3 by decide];simp
 go_wp2_with fail
 refine (cn_at NN.out H0.out.B _ hh.out).mono ?_
 rintro e w7 ⟨rfl,hb⟩
 have B7:=hid (onB B0.out hh.out hb)
 clear hb u0 hh
 cases lv<;>(go_wp2_with (go_at_call 232;refine (level_any _ _).mono ?_;rintro e w8 ⟨rfl,rfl⟩);go_ret;exact ⟨B7.out,by simp only [CR.bind,binC,nd,HOK.out,if_true,HT.out];rfl⟩)
theorem allC_bad:∀ (rs:List (CR ByteArray)) (us:List ByteArray) (k p e:Nat),rs.take k=us.map .ok→rs[k]? =some (.bad p e)→allC rs= .bad p e
 | [],us,k,p,e,_,h=>by simp at h
 |r::rs,us,0,p,e,_,h=>by obtain rfl:=Option.some.inj h;rfl
 |r::rs,[],k+1,p,e,h0,h=>by simp at h0
 |r::rs,a::us,k+1,p,e,h0,h=>by
  simp only [List.take_succ_cons,List.map_cons,List.cons.injEq] at h0
  obtain ⟨rfl,h1⟩:=h0
  simp only [allC,CR.bind,allC_bad rs us k p e h1 h]
theorem allC_ok:∀ (us:List ByteArray),allC (us.map .ok)= .ok us
 | []=>rfl
 |a::us=>by simp only [List.map_cons,allC,CR.bind,allC_ok us]
theorem take_snoc {α:Type} {l:List α} {k:Nat} {a:α} (h:l[k]? =some a):l.take (k+1)=l.take k++ [a]:=by
 rw [List.take_add_one,h];rfl
theorem cstr_info:(Tryz.prog.info? 9).map (fun i=>(i.zero,i.size,i.bytes))=some (some (.string ⟨#[]⟩),1,16):=by kernel_rfl
theorem newsA (w:World) (a:Value) (e:TypeId):∀ j u,[a][j]? =some u→(w.alloc (.cells #[a] e)).cell? ((⟨w.heap.size,0,none⟩:Addr).add j)=some u:=by
 intro j u h
 cases j with
 |zero=>obtain rfl:=Option.some.inj h;exact zxa w _ e 0
 |succ j=>simp at h
def ARel (wa:World) (rs:List (CR ByteArray)) (m:Nat) (v i:Value) (wr:World):Prop:=
 ∃ (k:Nat) (us:List ByteArray),k≤m∧us.length=k∧i= .int .i64 k∧Hid (rs.take k=us.map .ok)∧Hid (wr.ownsRow wa.heap.size 9 1 v k (us.map .string))∧Hid (Below wa.heap.size wa wr)
def BRel (wb:World) (us:List ByteArray) (ps:List Fld) (m:Nat) (i:Value) (wr:World):Prop:=
 ∃ k:Nat,k≤m∧i= .int .i64 k∧Hid (z0z us ps=z0z (us.drop k) (ps.drop k))∧Hid (Below wb.heap.size wb wr)
theorem fit_step {us:List ByteArray} {ps:List Fld} {k:Nat} {a:ByteArray} {f:Fld} (h1:us[k]? =some a) (h2:ps[k]? =some f):z0z (us.drop k) (ps.drop k)=(fitB a f.typ&&z0z (us.drop (k+1)) (ps.drop (k+1))):=by
 obtain ⟨l1,rfl⟩:=List.getElem?_eq_some_iff.1 h1
 obtain ⟨l2,rfl⟩:=List.getElem?_eq_some_iff.1 h2
 rw [List.drop_eq_getElem_cons l1,List.drop_eq_getElem_cons l2,z0z]
theorem fit_end {us:List ByteArray} {ps:List Fld} {k:Nat} (h:us.length≤k):z0z (us.drop k) (ps.drop k)=true:=by
 rw [List.drop_eq_nil_of_le h];unfold z0z;cases ps.drop k<;>rfl
theorem ccall_any (E:CE) (v:Value) (K:List Fld) (f b:Nat) (t:Tree) (w:World) (H:SC E w v K f) (hKo:KOk E.x K) (N:Nd E b t) (ih:∀ (k:Nat) (u:Tree),t.kids[k]? =some u→XH E u):
 Calls Tryz.prog 205 #[.pointer (some ⟨E.sb,0,none⟩),.agg #[.pointer (some ⟨b,0,none⟩)]] w (XQ E w ((allC (t.kids.map (zzt E.x K))).bind fun us=>callC E.x K t.pos (nm t) us)):=by
 have B0:=hid (b1 w (.cells #[.pointer (some ⟨b,0,none⟩)] 25))
 have H0:=hid (H.below (b1 w (.cells #[.pointer (some ⟨b,0,none⟩)] 25)))
 have U0:=hid (PtrAt.new w (some ⟨b,0,none⟩))
 have NN:=hid N
 have IH:=hid ih
 have HKO:=hid hKo
 obtain ⟨rs,hrs⟩:∃ r,t.kids.map (zzt E.x K)=r:=⟨_,rfl⟩
 have HRS:=hid hrs
 rw [hrs]
 obtain ⟨m,hm⟩:∃ m,t.kids.length=m:=⟨_,rfl⟩
 have HM:=hid hm
 have hm6:m≤6000:=by obtain ⟨-,-,-,-,h,-⟩:=N.kid;omega
 obtain ⟨i0,hi0,hz0,hz1,hz2⟩:=info_parts cstr_info
 have HI0:=hid hi0
 have HZ0:=hid hz0
 have HZ1:=hid hz1
 have HZ2:=hid hz2
 clear H N ih hKo hrs hi0 hz0 hz1 hz2
 go_enter Tryz.func205,Tryz.ntmps205
 go_wp2_with fail
 generalize w.alloc (.cells #[.pointer (some ⟨b,0,none⟩)] 25)=wa at*
 have u0:=U0.out.c0
 have ul:=U0.out.lt
 have sl:=H0.out.lt
 have c0:=H0.out.c0
 have c1:=H0.out.c1
 have c2:=H0.out.c2
 refine (zk4 NN.out H0.out.B _ (Below.refl _ _)).mono ?_
 rintro e w1 ⟨rfl,hb0⟩
 have HB0:=hid hb0
 rw [hm]
 clear hb0 hm c0 c1 c2
 go_wp2_with fail
 go_loopw [5,12] (fun v i wr=>ARel wa rs m v i wr) (fun _ i _=>m - (intOf i).toNat)
 case atStart=>exact ⟨0,[],Nat.zero_le _,rfl,rfl,rfl,World.ownsRow_nil _ _ _ _,HB0.out⟩
 case round=>
  obtain ⟨k,us,hk,hul,rfl,HT,HO,HB⟩:=hrel
  by_cases hlt:k<m
  ·obtain ⟨u,hu⟩:∃ u,t.kids[k]? =some u:=⟨_,List.getElem?_eq_getElem (by have:=HM.out;omega)⟩
   obtain ⟨r,hr⟩:∃ r,zzt E.x K u=r:=⟨_,rfl⟩
   have HR:=hid hr
   have HRK:Hid (rs[k]? =some r):=by show _=_;rw [←HRS.out,List.getElem?_map,hu,←hr];rfl
   obtain ⟨nb,hn,hkd⟩:=zx8 NN.out H0.out.B k u hu
   have HU:=hid hu
   have N1:=hid hn
   have KD:=hid hkd
   have ur:=zza (Below.refl _ _) u0 ul HB.out
   clear hr hu hn hkd
   go_wp2_with fail
   refine (KD.out _ HB.out).mono ?_
   rintro e w2 ⟨rfl,hb2⟩
   have B2:=hid (HB.out.trans (hb2.mono HB.out.size))
   have O2:=hid (zkb HO.out hb2)
   clear hb2 KD
   go_wp2_with fail
   refine (IH.out k u HU.out w2 _ K f nb (H0.out.below B2.out) HKO.out N1.out).mono ?_
   rw [HR.out]
   rintro e w3 ⟨hb3,he⟩
   cases r with
   |bad p er=>
    obtain rfl:=he
    exact ⟨rfl,onB B0.out B2.out hb3,by rw [allC_bad rs us k p er HT.out HRK.out];rfl⟩
   |ok a=>
    obtain rfl:=he
    have B3:=hid (B2.out.trans (hb3.mono B2.out.size))
    have O3:=hid (zkb O2.out hb3)
    clear hb3
    go_wp2_with (at_builtin;refine Hid.out ?_)
    refine hid ?_
    refine wpList_append_lies _ rfl (.tmp 15) (.tmp 21) _ rfl wa.heap.size 9 i0 _ 1 16 Tryz.underlying63 HI0.out HZ0.out HZ1.out HZ2.out rfl (by omega) u5 k (us.map .string) rfl (by exact O3.out.alloc _) ⟨w3.heap.size,0,none⟩ 1 1 [.string a] rfl rfl (by exact newsA w3 _ 9) (by simp [Value.oneCell']) (by omega) (by simp only [maxLen];omega) (by omega) (by simp;have:=B3.out.size;omega) (w3.heap.size+1) (by simp) ?_
    intro g cap w4 hown hg hat hlt4
    have B4:Below wa.heap.size wa w4:=(B3.out.alloc B3.out.size _).grown hg (by simp;have:=B3.out.size;omega) (fun k hk=>(O3.out.lt k hk).1)
    have hown':w4.ownsRow wa.heap.size 9 1 (.slice (some ⟨g,0,none⟩) (k+1) cap) (k+1) ((us++ [a]).map .string):=by rw [List.map_append];exact hown
    have HOn:=hid hown'
    have HBn:=hid B4
    clear hown hg hat hown' B4
    go_wp2_with fail
    go_roundw
    case rel=>exact ⟨k+1,us++ [a],by omega,by simp [hul],by go_num,by show _=_;rw [take_snoc HRK.out,HT.out,List.map_append];rfl,HOn,HBn⟩
    case measure=>simp [intOf];omega
  ·obtain rfl:k=m:=by omega
   have HAL:Hid (rs=us.map .ok):=by
    show _=_
    rw [←HT.out,List.take_of_length_le (by rw [←HRS.out,List.length_map,HM.out];exact Nat.le_refl _)]
   have HCL:Hid ((allC rs).bind (fun us=>callC E.x K t.pos (nm t) us)=callC E.x K t.pos (nm t) us):=by show _=_;rw [HAL.out,allC_ok];rfl
   have ur:=zza (Below.refl _ _) u0 ul HB.out
   obtain ⟨q,hq⟩:∃ q,zju E.x K t.pos (nm t)=q:=⟨_,rfl⟩
   have HQ:=hid hq
   clear hq
   go_wp2_with fail
   refine (ccallee_any E v K f b t wr (H0.out.below HB.out) NN.out).mono ?_
   rw [HQ.out]
   rintro e w5 ⟨hb5,he⟩
   cases q with
   |bad p er=>
    obtain rfl:=he
    exact ⟨rfl,onB B0.out HB.out hb5,by rw [HCL.out];unfold callC;rw [HQ.out];rfl⟩
   |ok g=>
    obtain ⟨PA,pc,rfl,gle,glm,gfr⟩:=he
    have HCC:Hid (callC E.x K t.pos (nm t) us=nd t.pos (us.length==g.params.length) 7 (nd t.pos (z0z us g.params) 7 (.ok g.res))):=by show _=_;unfold callC;rw [HQ.out];rfl
    have B5:=hid (HB.out.trans (hb5.mono HB.out.size))
    have O5:=hid (zkb HO.out hb5)
    have GF:=hid gfr
    have u5':=zza HB.out ur ul hb5
    obtain ⟨AA,ac,rfl,-⟩:∃ AA ac,u5= .slice AA k ac∧True:=by
     rcases HO.out.2 with ⟨h1,h2⟩|⟨gg,cap,cur,h1,-⟩
     ·exact ⟨none,0,by rw [h1,h2],trivial⟩
     ·exact ⟨_,_,h1,trivial⟩
    clear hb5 gfr ur HO
    have BV:=hid (b1 w5 (.cells #[.string g.name,.slice PA g.params.length pc,.string g.res] 55))
    have s0:(w5.alloc (.cells #[.string g.name,.slice PA g.params.length pc,.string g.res] 55)).cell? ⟨w5.heap.size,0,none⟩=some (.string g.name):=zxa w5 _ 55 0
    have s1:(w5.alloc (.cells #[.string g.name,.slice PA g.params.length pc,.string g.res] 55)).cell? ⟨w5.heap.size,1,none⟩=some (.slice PA g.params.length pc):=zxa w5 _ 55 1
    have s2:(w5.alloc (.cells #[.string g.name,.slice PA g.params.length pc,.string g.res] 55)).cell? ⟨w5.heap.size,2,none⟩=some (.string g.res):=zxa w5 _ 55 2
    have sl5:w5.heap.size<(w5.alloc (.cells #[.string g.name,.slice PA g.params.length pc,.string g.res] 55)).heap.size:=by simp
    have u6:=zza B5.out u5' ul BV.out
    clear u5'
    obtain ⟨d,hd⟩:∃ d,((k:Int)==(g.params.length:Int))=d:=⟨_,rfl⟩
    have HD:Hid ((us.length==g.params.length)=d):=by
     show _=_
     rw [←hd,hul]
     by_cases h:k=g.params.length
     ·rw [←h];simp
     ·rw [beq_eq_false_iff_ne.2 h,beq_eq_false_iff_ne.2 (by omega)]
    generalize hlen:g.params.length=gm at gle glm s1 sl5 hd ⊢ u6 BV s0 s2
    go_wp2_with fail
    generalize w5.alloc (.cells #[.string g.name,.slice PA gm pc,.string g.res] 55)=wb at*
    have B6:=hid (B5.out.trans (BV.out.mono B5.out.size))
    have ul6:=Nat.lt_of_lt_of_le ul B6.out.size
    have O6:=hid (zkb O5.out BV.out)
    have G6:=hid (GF.out.below BV.out (Nat.le_refl _))
    refine (zz2 NN.out H0.out.B d 7 _ B6.out).mono ?_
    rintro e w7 ⟨hb7,he⟩
    cases d with
    |false=>
     obtain rfl:=he
     exact ⟨rfl,onB B0.out B6.out hb7,by rw [HCL.out,HCC.out,HD.out];rfl⟩
    |true=>
     obtain rfl:=he
     have hkg:k=gm:=by have:=eq_of_beq HD.out;omega
     have HLN:=hid hlen
     have H7:=hid hb7
     clear hb7 O5 GF B5 BV HD hd hlen
     go_wp2_with fail
     go_loopw [37] (fun i wr=>BRel wb us g.params k i wr) (fun i _=>k - (intOf i).toNat)
     case atStart=>exact ⟨0,Nat.zero_le _,rfl,rfl,H7.out⟩
     case round=>
      obtain ⟨j,hj,rfl,HF,HB7⟩:=hrel
      by_cases hjl:j<k
      ·obtain ⟨a,ha⟩:∃ a,us[j]? =some a:=⟨_,List.getElem?_eq_getElem (by omega)⟩
       obtain ⟨pf,hpf⟩:∃ a,g.params[j]? =some a:=⟨_,List.getElem?_eq_getElem (by have:=HLN.out;omega)⟩
       have hty:=typAt_at hpf
       have hst:=fit_step ha hpf
       rw [←hty] at hst
       have HST:=hid hst
       have hform:=O6.out.form (by omega)
       obtain ⟨ag,acap,hav,-,-⟩:=hform
       simp only [Value.slice.injEq] at hav
       obtain ⟨rfl,-,rfl⟩:=hav
       have acell:wr.cell? ⟨ag,j,none⟩=some (.string a):=by
        have h:=O6.out.cellAt j (by omega)
        rw [List.getElem?_map,ha] at h
        exact (HB7.out.cell (p:=⟨ag,j,none⟩) (O6.out.lt ag rfl).2).trans h
       obtain ⟨pb,po,rfl,hpb,hcell⟩:=fld_at G6.out (g:=j) (by have:=HLN.out;omega)
       have pr:=(HB7.out.cell (p:=⟨pb,_,none⟩) hpb).trans hcell
       have ur:=zza (Below.refl _ _) u6 ul6 HB7.out
       have sr:=zza (Below.refl _ _) s1 sl5 HB7.out
       have ulr:=Nat.lt_of_lt_of_le ul6 HB7.out.size
       have slr:=Nat.lt_of_lt_of_le sl5 HB7.out.size
       have plr:=Nat.lt_of_lt_of_le hpb HB7.out.size
       have BW:=hid (B6.out.trans (HB7.out.mono B6.out.size))
       obtain ⟨d,hd⟩:∃ d,fitB a (typAt g.params j)=d:=⟨_,rfl⟩
       have HD:=hid hd
       clear ha hpf hty hst hcell hd
       go_wp2_with fail
       refine rgS (fun w'=>Below wr.heap.size wr w'∧w'.cell? ⟨w.heap.size,0,none⟩=some (.pointer (some ⟨b,0,none⟩))∧w'.cell? ⟨w5.heap.size,1,none⟩=some (.slice (some ⟨pb,po,none⟩) gm pc)∧w'.cell? ⟨pb,po+j*2+1,none⟩=some (.string (typAt g.params j))) (by kernel_rfl) (⟨(Below.refl _ _).drew,ur,sr,pr⟩) (fun _ a d v _ h=>And.intro ((zql a d v).symm.trans (And.left h)) (And.right h)) fun hHeld hq=> ?_
       refine tkS 0 ⟨some 42,.load 25 (.tmp 3),25,"expr.go:100",#[],none⟩ (v:= ?v1_0) hq hHeld rfl (by kernel_rfl) ?y1_0 ?_
       case y1_0=>(intro w h;try dsimp only at h);go_simp<;>with_reducible rfl
       try simp only [Act.put,List.setIfInBounds_toArray,List.set_cons_zero,List.set_cons_succ]
       refine tkS 1 ⟨some 43,.move (.tmp 9),9,"expr.go:100",#[],none⟩ (v:= ?v1_1) hq hHeld rfl (by kernel_rfl) ?y1_1 ?_
       case y1_1=>(intro w h;try dsimp only at h);go_simp<;>with_reducible rfl
       try simp only [Act.put,List.setIfInBounds_toArray,List.set_cons_zero,List.set_cons_succ]
       refine tkS 2 ⟨some 44,.fieldAddr 55 (.tmp 7) 1,0,"expr.go:100",#[],none⟩ (v:= ?v1_2) hq hHeld rfl (by kernel_rfl) ?y1_2 ?_
       case y1_2=>(intro w h;try dsimp only at h);go_simp<;>with_reducible rfl
       try simp only [Act.put,List.setIfInBounds_toArray,List.set_cons_zero,List.set_cons_succ]
       refine tkS 3 ⟨some 45,.load 41 (.tmp 44),41,"expr.go:100",#[⟨2,.data⟩],none⟩ (v:= ?v1_3) hq hHeld rfl (by kernel_rfl) ?y1_3 ?_
       case y1_3=>(intro w h;try dsimp only at h);go_simp<;>with_reducible rfl
       try simp only [Act.put,List.setIfInBounds_toArray,List.set_cons_zero,List.set_cons_succ]
       refine tkS 4 ⟨some 46,.move (.tmp 8),3,"expr.go:100",#[],none⟩ (v:= ?v1_4) hq hHeld rfl (by kernel_rfl) ?y1_4 ?_
       case y1_4=>(intro w h;try dsimp only at h);go_simp<;>with_reducible rfl
       try simp only [Act.put,List.setIfInBounds_toArray,List.set_cons_zero,List.set_cons_succ]
       refine tkS 5 ⟨some 47,.indexAddr 41 (.tmp 45) (.tmp 46),0,"expr.go:100",#[⟨3,.data⟩,⟨4,.data⟩],none⟩ (v:= ?v1_5) hq hHeld rfl (by kernel_rfl) ?y1_5 ?_
       case y1_5=>(intro w h;try dsimp only at h);go_simp<;>with_reducible rfl
       try simp only [Act.put,List.setIfInBounds_toArray,List.set_cons_zero,List.set_cons_succ]
       refine tkS 6 ⟨some 48,.fieldAddr 97 (.tmp 47) 1,0,"expr.go:100",#[⟨5,.data⟩],none⟩ (v:= ?v1_6) hq hHeld rfl (by kernel_rfl) ?y1_6 ?_
       case y1_6=>(intro w h;try dsimp only at h);go_simp<;>with_reducible rfl
       try simp only [Act.put,List.setIfInBounds_toArray,List.set_cons_zero,List.set_cons_succ]
       refine tkS 7 ⟨some 49,.load 9 (.tmp 48),9,"expr.go:100",#[⟨6,.data⟩],none⟩ (v:= ?v1_7) hq hHeld rfl (by kernel_rfl) ?y1_7 ?_
       case y1_7=>(intro w h;try dsimp only at h);go_simp<;>with_reducible rfl
       try simp only [Act.put,List.setIfInBounds_toArray,List.set_cons_zero,List.set_cons_succ]
       refine clS 8 ⟨some 50,.call ⟨.value (.func 188),#[.tmp 43,.tmp 49],#[9,9]⟩,4,"expr.go:100",#[⟨1,.data⟩,⟨7,.data⟩],none⟩ rfl (by kernel_rfl) (by kernel_rfl) fun Kc hK=> ?_
       go_simp
       refine (sameB (zwr a (typAt g.params j) d _ (hid (H0.out.below (BW.out.trans (hHeld.1.mono BW.out.size))).imw.good.keys) HD)).mono ?_
       rintro e w1 ⟨rfl,hb⟩
       refine hK.out _ _ ⟨hHeld.1.trans (hb.mono hHeld.1.size),zza hHeld.1 hHeld.2.1 ulr hb,zza hHeld.1 hHeld.2.2.1 slr hb,zza hHeld.1 hHeld.2.2.2 plr hb⟩ fun hHeld=> ?_
       clear hb
       clear hK Kc
       try simp only [Act.put,List.setIfInBounds_toArray,List.set_cons_zero,List.set_cons_succ]
       refine clS 9 ⟨some 51,.call ⟨.value (.func 148),#[.tmp 42,.tmp 50,.const (.int .i64 7)],#[25,4,26]⟩,0,"expr.go:100",#[⟨0,.data⟩,⟨8,.data⟩,⟨8,.chain⟩],none⟩ rfl (by kernel_rfl) (by kernel_rfl) fun Kc hK=> ?_
       go_simp
       refine (zz2 NN.out H0.out.B d 7 _ (BW.out.trans (hHeld.1.mono BW.out.size))).mono ?_
       rintro e w1 ⟨hb,he⟩
       cases d with
       |false=>obtain rfl:=he;exact ⟨rfl,onB B0.out BW.out (hHeld.1.trans (hb.mono hHeld.1.size)),by rw [HCL.out,HCC.out,show (us.length==g.params.length)=true by rw [HLN.out];simp;omega,HF.out,HST.out,HD.out];rfl⟩
       |true=>
       obtain rfl:=he
       refine hK.out _ _ ⟨hHeld.1.trans (hb.mono hHeld.1.size),zza hHeld.1 hHeld.2.1 ulr hb,zza hHeld.1 hHeld.2.2.1 slr hb,zza hHeld.1 hHeld.2.2.2 plr hb⟩ fun hHeld=> ?_
       clear hb
       clear hK Kc
       try simp only [Act.put,List.setIfInBounds_toArray,List.set_cons_zero,List.set_cons_succ]
       refine wpAnyH_done (by kernel_rfl) ?_ _
       have hh:=hid hHeld.1
       clear hHeld
       go_wp2_with fail
       go_roundw
       case rel=>exact ⟨j+1,by omega,by go_num,by show _=_;rw [HF.out,HST.out,HD.out];rfl,HB7.out.trans (hh.out.mono HB7.out.size)⟩
       case measure=>simp [intOf];omega
      ·obtain rfl:j=k:=by omega
       have HFT:Hid (z0z us g.params=true):=by show _=_;rw [HF.out,fit_end (by omega)]
       have s2r:=zza (Below.refl _ _) s2 sl5 HB7.out
       go_wp2_with fail
       go_ret
       exact ⟨onB B0.out B6.out HB7.out,by rw [HCL.out,HCC.out,show (us.length==g.params.length)=true by rw [HLN.out];simp;omega,HFT.out];rfl⟩
def zj6 (ts:List Tok):List Value:=ts.flatMap fun t=> [.int .i64 t.kind,.string ⟨t.text.toArray⟩,.int .i64 t.place]
theorem cellsT_snoc (ts:List Tok) (t:Tok):zj6 (ts++ [t])=zj6 ts++ [.int .i64 t.kind,.string ⟨t.text.toArray⟩,.int .i64 t.place]:=by simp [zj6]
def ScanQ (r:R) (w:World) (e:Ending) (w':World):Prop:=Below w.heap.size w w'∧(match r with
 | .ok ts=>∃ v,e= .returned (.tuple #[v,.int .i64 0,.int .i64 0])∧w'.ownsRow w.heap.size 108 3 v ts.length (zj6 ts)
 | .bad p er=>e= .returned (.tuple #[.slice none 0 0,.int .i64 p,.int .i64 er]))
def zjp (l:List UInt8):R:=if 4096<l.length then .bad 4096 4 else sc l 0
def StopAt (l:List UInt8) (p:Nat):Prop:=∀ h:p<l.length,blkB l[p]=false∧zvt l p=false
def ScRel (s:ByteArray) (w:World) (r:R) (v i:Value) (wr:World):Prop:=
 ∃ (ts:List Tok) (p:Nat),p≤s.size∧ts.length≤p∧i= .int .i64 p∧Hid (r=(sc s.data.toList p).pre ts)∧Hid (StopAt s.data.toList p)∧Hid (wr.ownsRow w.heap.size 108 3 v ts.length (zj6 ts))∧Below w.heap.size w wr
theorem own_below {w w':World} {base:Nat} {e:TypeId} {size:Nat} {v:Value} {n:Nat} {xs:List Value} (h:w.ownsRow base e size v n xs) (hb:Below w.heap.size w w'):w'.ownsRow base e size v n xs:=
 h.kept (row:=none) ⟨hb.os,hb.tape,hb.output,hb.size,fun i hi _=>hb.block i hi⟩ (by cases v.ownBlock<;>simp)
theorem own_lt {w:World} {base:Nat} {e:TypeId} {size:Nat} {v:Value} {n:Nat} {xs:List Value} (h:w.ownsRow base e size v n xs) (g:Nat) (hg:w.heap.size≤g):some g≠v.ownBlock:=
 fun e=>by have:=h.lt g e.symm;omega
theorem tok_info:(Tryz.prog.info? 108).map (fun i=>(i.zero,i.size,i.bytes))=some (some (.agg #[.int .i64 0,.string ⟨#[]⟩,.int .i64 0]),3,32):=by kernel_rfl
theorem news3 (w:World) (A:Array Value) (t e:TypeId) (a b c:Value):∀ j u,[a,b,c][j]? =some u→((w.alloc (.cells A t)).alloc (.cells #[a,b,c] e)).cell? ((⟨w.heap.size+1,0,none⟩:Addr).add j)=some u:=by
 have h:=heap_alloc_new (w.alloc (.cells A t)) (.cells #[a,b,c] e)
 rw [show (w.alloc (.cells A t)).heap.size=w.heap.size+1 by simp] at h
 exact World.news_of_block h
theorem cell_first (w:World) (A B:Array Value) (t e:TypeId) (j:Nat):((w.alloc (.cells A t)).alloc (.cells B e)).cell? ⟨w.heap.size,j,none⟩=A[j]? :=by
 have h:=heap_alloc_new w (.cells A t)
 have h2:=(Below.heap_alloc (w.alloc (.cells A t)) (.cells B e) w.heap.size (by simp)).trans h
 exact cell_of_row _ w.heap.size j A t (0,0) h2
theorem skip_to (s:ByteArray) (i:Int) (p q:Nat) (w:World) (hs:s.size≤281474976710656) (hp:p≤s.size) (hi:Hid (i=p)) (hq:Hid (zkk s.data.toList p=q)):
 Calls Tryz.prog 87 #[.string s,.int .i64 i] w fun e w'=>e= .returned (.int .i64 q)∧w=w':=by
 rw [hi.out];exact skip_any s p q w hs hp hq
theorem scan_any (s:ByteArray) (r:R) (w:World) (G:Good w) (hs:s.size≤281474976710656) (hr:Hid (zjp s.data.toList=r)):Calls Tryz.prog 53 #[.string s] w (ScanQ r w):=by
 by_cases hl:4096<s.size
 ·have hi:(4096:Int)<(s.size:Int):=by omega
  have HQ:Hid (R.bad 4096 4=r):=by
   show _=_
   rw [←hr.out,zjp,zzg,if_pos hl]
  have:=HQ.out
  subst this
  go_enter Tryz.func53,Tryz.ntmps53
  go_wp2_with fail
  refine bodyPost_ret (v:= .tuple #[.slice none 0 0,.int .i64 4096,.int .i64 4]) (by simp [results,Tryz.results53,go_sem]) rfl ⟨Below.refl _ _,rfl⟩
 ·have hi:¬ (4096:Int)<(s.size:Int):=by omega
  have hsk:=skip_all s.data.toList s.data.toList.length 0 (by omega) (Nat.zero_le _)
  obtain ⟨p0,hp0⟩:∃ p,zkk s.data.toList 0=p:=⟨_,rfl⟩
  rw [hp0] at hsk
  obtain ⟨k1,k2,k3,k4⟩:=hsk
  have HR:Hid (r=(sc s.data.toList p0).pre []):=by
   show _=_
   rw [←hr.out,zjp,zzg,if_neg hl,k1,R.pre_nil]
  have HP0:=hid hp0
  have H4:Hid (StopAt s.data.toList p0):=k4
  rw [zzg] at k3
  have hsk0:Calls Tryz.prog 87 #[.string s,.int .i64 0] w fun e w'=>e= .returned (.int .i64 p0)∧w=w':=skip_any s 0 p0 w hs (Nat.zero_le _) HP0
  have HSK:=hid hsk0
  obtain ⟨i0,hi0,hz0,hz1,hz2⟩:=info_parts tok_info
  have HI0:=hid hi0
  have HZ0:=hid hz0
  have HZ1:=hid hz1
  have HZ2:=hid hz2
  clear hp0 k1 k4 k2 hr hsk0 hi0 hz0 hz1 hz2
  go_enter Tryz.func53,Tryz.ntmps53
  go_wp2_with (go_at_call 87;refine HSK.out.mono ?_;rintro e w' ⟨rfl,rfl⟩)
  go_loopw [5,6] (fun v i wr=>ScRel s w r v i wr) (fun _ i _=>s.size - (intOf i).toNat)
  case atStart=>exact ⟨[],p0,k3,Nat.zero_le _,rfl,HR,H4,World.ownsRow_nil _ _ _ _,Below.refl _ _⟩
  case round=>
   obtain ⟨ts,p,hp,hts,rfl,HRR,HST,HOWN,hb⟩:=hrel
   by_cases hlt:p<s.size
   ·obtain ⟨a,x,b,c,hf⟩:=tkOf_form s p (zkw s.data.toList p)
    have HF:=hid hf
    have Gr:=G.below hb
    obtain ⟨hst1,hst2⟩:=HST.out (by rw [zzg];exact hlt)
    by_cases he:(zkw s.data.toList p).err=0
    ·have hsc:=sc_tok (l:=s.data.toList) (by rw [zzg];exact hlt) hst1 hst2 he
     have hln:=tokAt_len (l:=s.data.toList) (by rw [zzg];exact hlt) he
     unfold tkOf at hf
     rw [if_pos he] at hf
     obtain ⟨m,hm⟩:∃ m,(zkw s.data.toList p).len=m:=⟨_,rfl⟩
     obtain ⟨kd,hkd⟩:∃ m,(zkw s.data.toList p).kind=m:=⟨_,rfl⟩
     rw [hm] at hln hsc hf
     rw [hkd] at hsc hf
     simp only [tkV,Value.tuple.injEq,Array.mk.injEq,List.cons.injEq,Value.agg.injEq,Value.int.injEq,Value.string.injEq,and_true,true_and] at hf
     obtain ⟨⟨rfl,hx,rfl⟩,rfl⟩:=hf
     rw [zzg] at hln
     have hxl:x.size=m:=by rw [←hx,←zzg,zjt,List.length_take,List.length_drop,zzg];omega
     have hxt:x=⟨((s.data.toList.drop p).take m).toArray⟩:=Go.WideShapes.bytes_inj (by rw [←hx,zjt,show p+m - p=m by omega])
     have HSC:=hid hsc
     have HXT:=hid hxt
     have HXL:=hid hxl
     clear hsc hx hxt hm hkd he hst1 hst2 hxl
     go_wp2_with fail
     refine (tokenAt_any s p kd x p 0 _ hs hlt Gr HF).mono ?_
     rintro e w1 ⟨rfl,hb1⟩
     clear HF Gr
     have HO1:=hid (own_below HOWN.out hb1)
     have hb2:=hb.trans (hb1.mono hb.size)
     go_wp2_with (at_builtin;refine Hid.out ?_)
     refine hid ?_
     refine wpList_append_lies _ rfl (.tmp 28) (.tmp 30) _ rfl w.heap.size 108 i0 _ 3 32 Tryz.underlying68 HI0.out HZ0.out HZ1.out HZ2.out rfl (by omega) u5 ts.length (zj6 ts) rfl (by exact (HO1.out.alloc _).alloc _) ⟨w1.heap.size+1,0,none⟩ 1 1 [.int .i64 kd,.string x,.int .i64 p] rfl rfl (by exact news3 w1 _ 108 108 _ _ _) (by simp [Value.oneCell']) (by omega) (by simp only [maxLen];omega) (by omega) (by simp;have:=hb2.size;omega) (w1.heap.size+2) (by simp) ?_
     intro g cap w2 hown2 hg2 hat2 hlt2
     have hne:=own_lt HOWN.out w1.heap.size hb1.size
     have hcx:w2.cell? ⟨w1.heap.size,1,none⟩=some (.string x):=by
      rw [hg2.cell_far ⟨w1.heap.size,1,none⟩ (by simp;omega) hne,cell_first];rfl
     have hb3:Below w.heap.size w w2:=((hb2.alloc hb2.size _).alloc (by simp;have:=hb2.size;omega) _).grown hg2 (by simp;have:=hb2.size;omega) (fun k hk=>(HOWN.out.lt k hk).1)
     rw [HXT.out] at hown2
     have hown3:w2.ownsRow w.heap.size 108 3 (.slice (some ⟨g,0,none⟩) (ts.length+1) cap) (ts++ [Tok.mk kd ((s.data.toList.drop p).take m) p]).length (zj6 (ts++ [Tok.mk kd ((s.data.toList.drop p).take m) p])):=by
      rw [cellsT_snoc,List.length_append];exact hown2
     have HO3:=hid hown3
     clear hown2 hown3 hg2 hat2 hne
     obtain ⟨q,hq⟩:∃ q,zkk s.data.toList (p+m)=q:=⟨_,rfl⟩
     have hsk:=skip_all s.data.toList s.data.toList.length (p+m) (by omega) (by rw [zzg];omega)
     rw [hq] at hsk
     obtain ⟨k1,k2,k3',k4⟩:=hsk
     rw [zzg] at k3'
     have HQ:=hid hq
     have HST2:Hid (StopAt s.data.toList q):=k4
     have HR2:Hid (r=(sc s.data.toList q).pre (ts++ [Tok.mk kd ((s.data.toList.drop p).take m) p])):=by
      show _=_
      rw [HRR.out,HSC.out,R.pre_pre,k1]
     have HPM:Hid ((p:Int)+(x.size:Int)=((p+m:Nat):Int)):=by
      show _=_
      have:=HXL.out
      omega
     have hxb:x.size≤4096:=by have:=HXL.out;omega
     clear hq k1 k4
     go_wp2_with (go_at_call 87;refine (skip_to s _ (p+m) q _ hs hln.2 HPM HQ).mono ?_;rintro e w' ⟨rfl,rfl⟩)
     go_roundw
     case rel=>exact ⟨_,q,k3',by rw [List.length_append];simp;omega,rfl,HR2,HST2,HO3,hb3⟩
     case measure=>simp [intOf];omega
    ·have hsc:=sc_bad (l:=s.data.toList) (by rw [zzg];exact hlt) hst1 hst2 he
     unfold tkOf at hf
     rw [if_neg he] at hf
     obtain ⟨er,her⟩:∃ er,(zkw s.data.toList p).err=er:=⟨_,rfl⟩
     rw [her] at hsc hf he
     simp only [tkV,Value.tuple.injEq,Array.mk.injEq,List.cons.injEq,Value.agg.injEq,Value.int.injEq,Value.string.injEq,and_true,true_and] at hf
     obtain ⟨⟨rfl,rfl,rfl⟩,rfl⟩:=hf
     have HR2:Hid (R.bad p er=r):=by
      show _=_
      rw [HRR.out,hsc];rfl
     have:=HR2.out
     subst this
     have hne:((er:Int) !=0)=true:=by simpa using he
     clear hsc her he hst1 hst2 HRR
     go_wp2_with fail
     refine (tokenAt_any s p 0 ⟨#[]⟩ 0 er _ hs hlt Gr HF).mono ?_
     rintro e w1 ⟨rfl,hb1⟩
     clear HF Gr
     have hb2:=hb.trans (hb1.mono hb.size)
     go_wp2_with fail
     refine bodyPost_ret (v:= .tuple #[.slice none 0 0,.int .i64 p,.int .i64 er]) (by simp [results,Tryz.results53,go_sem]) rfl ⟨hb2.alloc hb2.size _,rfl⟩
   ·have HR2:Hid (R.ok ts=r):=by
     show _=_
     rw [HRR.out,sc_end (by rw [zzg];omega)];simp [R.pre]
    have:=HR2.out
    subst this
    clear HRR
    go_wp2_with fail
    refine bodyPost_ret (v:= .tuple #[u5,.int .i64 0,.int .i64 0]) (by simp [results,Tryz.results53,go_sem]) rfl ⟨hb,u5,rfl,HOWN.out⟩
abbrev Tx:=List UInt8
def strL (xs:List Tx):List Value:=xs.map fun l=> .string ⟨l.toArray⟩
abbrev PowIn (w:World):Prop:=Lib.TabIs Tryz.prog w "internal/strconv.uint64pow10" .u64 Lib.pow10Tab
theorem gPow6:Tryz.prog.globalNamed "internal/strconv.uint64pow10" =some 6:=by kernel_rfl
theorem zj1 {w w':World} (h:PowIn w) (hb:Below 8 w w'):PowIn w':=var?_below hb gPow6 (by omega) h
structure SH (w:World) (sb:Nat) (v:Value) (xs:List Tx):Prop where
 lt:sb<w.heap.size
 c0:w.cell? ⟨sb,0,none⟩=some v
 fr:w.frozen? ⟨sb,0,none⟩=false
 own:w.ownsRow (sb+1) 9 1 v xs.length (strL xs)
 good:Good w
 pow:PowIn w
 sb8:8≤sb
structure SG (sb:Nat) (v:Value) (w w':World):Prop where
 os:w'.os=w.os
 tape:w'.tape=w.tape
 output:w'.output=w.output
 size:w.heap.size≤w'.heap.size
 blk:∀ k,k<w.heap.size→k≠sb→v.ownBlock≠some k→w'.heap[k]? =w.heap[k]?
structure SST (sb:Nat) (v:Value) (w:World) (v':Value) (w':World) (xs:List Tx):Prop where
 sh:SH w' sb v' xs
 sg:SG sb v w w'
 nv:∀ g,v'.ownBlock=some g→v.ownBlock=some g∨w.heap.size≤g
def SQ (sb:Nat) (v:Value) (w:World) (xs:List Tx) (e:Ending) (w':World):Prop:=∃ v',e= .returned (.tuple #[])∧SST sb v w v' w' xs
theorem SST.refl {sb:Nat} {v:Value} {w:World} {xs:List Tx} (h:SH w sb v xs):SST sb v w v w xs:=⟨h,⟨rfl,rfl,rfl,Nat.le_refl _,fun _ _ _ _=>rfl⟩,fun _ h=> .inl h⟩
theorem SG.below {sb:Nat} {v:Value} {w w':World} (hb:Below w.heap.size w w'):SG sb v w w':=⟨hb.os,hb.tape,hb.output,hb.size,fun k hk _ _=>hb.block k hk⟩
theorem SH.below {w w':World} {sb:Nat} {v:Value} {xs:List Tx} (h:SH w sb v xs) (hb:Below w.heap.size w w'):SH w' sb v xs:=
 ⟨Nat.lt_of_lt_of_le h.lt hb.size,(hb.cell (p:=⟨sb,0,none⟩) h.lt).trans h.c0,(hb.frozen (p:=⟨sb,0,none⟩) h.lt).trans h.fr,own_below h.own hb,h.good.below hb,zj1 h.pow (hb.mono h.good.size),h.sb8⟩
theorem SST.trans {sb:Nat} {v v1 v2:Value} {w w1 w2:World} {xs ys:List Tx} (h:SST sb v w v1 w1 xs) (k:SST sb v1 w1 v2 w2 ys):SST sb v w v2 w2 ys:=by
 refine ⟨k.sh,⟨k.sg.os.trans h.sg.os,k.sg.tape.trans h.sg.tape,k.sg.output.trans h.sg.output,Nat.le_trans h.sg.size k.sg.size,fun b hb h1 h2=> ?_⟩,fun g hg=> ?_⟩
 ·refine (k.sg.blk b (Nat.lt_of_lt_of_le hb h.sg.size) h1 (fun e=> ?_)).trans (h.sg.blk b hb h1 h2)
  rcases h.nv b e with h3|h3
  ·exact h2 h3
  ·omega
 ·rcases k.nv g hg with h3|h3
  ·exact h.nv g h3
  ·exact .inr (Nat.le_trans h.sg.size h3)
theorem SST.below {sb:Nat} {v v1:Value} {w w1 w2:World} {xs:List Tx} (h:SST sb v w v1 w1 xs) (hb:Below w1.heap.size w1 w2):SST sb v w v1 w2 xs:=
 h.trans ⟨h.sh.below hb,SG.below hb,fun _ h=> .inl h⟩
theorem SG.low {sb:Nat} {v:Value} {w w':World} {xs:List Tx} (h:SG sb v w w') (hs:SH w sb v xs):Below sb w w':=
 ⟨h.os,h.tape,h.output,h.size,fun k hk=>h.blk k (Nat.lt_trans hk hs.lt) (by omega) (fun e=>by have:=(hs.own.lt k e).1;omega)⟩
theorem NodeAt.low {pl:Nat→Nat} {w w':World} {sb b:Nat} {t:Tree} (h:NodeAt (fun x=>x<sb) pl w b t) (hb:Below sb w w'):NodeAt (fun x=>x<sb) pl w' b t:=
 h.kept ⟨hb.size,fun b hb1 _=>hb.block b hb1⟩
theorem PtrAt.sg {w w':World} {sb b:Nat} {v:Value} {x:Option Addr} (h:PtrAt w b x) (hg:SG sb v w w') (h1:b≠sb) (h2:v.ownBlock≠some b):PtrAt w' b x:=
 ⟨Nat.lt_of_lt_of_le h.lt hg.size,(World.cell?_of_block (w:=w) (hg.blk b h.lt h1 h2)).trans h.c0,(World.frozen?_of_block (w:=w) (hg.blk b h.lt h1 h2)).trans h.f0⟩
theorem str_info:(Tryz.prog.info? 9).map (fun i=>(i.zero,i.size,i.bytes))=some (some (.string ⟨#[]⟩),1,16):=by kernel_rfl
theorem zz8 (w:World) (sb:Nat) (v:Value) (xs:List Tx) (ad m:Nat) (ys:List Tx) (h:SH w sb v xs) (hm:Hid (ys.length=m)) (hys:Hid (∀ j y,ys[j]? =some y→w.cell? ⟨ad,j,none⟩=some (.string ⟨y.toArray⟩))) (h0:0<m) (hl:xs.length+m≤1000000):
 Calls Tryz.prog 70 #[.pointer (some ⟨sb,0,none⟩),.slice (some ⟨ad,0,none⟩) m m] w (SQ sb v w (xs++ys)):=by
 obtain ⟨i0,hi0,hz0,hz1,hz2⟩:=info_parts str_info
 have HI0:=hid hi0
 have HZ0:=hid hz0
 have HZ1:=hid hz1
 have HZ2:=hid hz2
 have H:=hid h
 have c0:=h.c0
 have fr:=h.fr
 have hlt:=h.lt
 have HX:Hid (xs.length=(strL xs).length):=by show _=_;simp [strL]
 clear h hi0 hz0 hz1 hz2
 go_enter Tryz.func70,Tryz.ntmps70
 go_wp2_with (at_builtin;refine Hid.out ?_)
 refine hid ?_
 refine wpList_append_lies _ rfl (.tmp 8) (.tmp 9) _ rfl (sb+1) 9 i0 _ 1 16 Tryz.underlying63 HI0.out HZ0.out HZ1.out HZ2.out rfl (by omega) v xs.length (strL xs) rfl H.out.own ⟨ad,0,none⟩ m m (strL ys) rfl (by simp [strL,hm.out]) ?_ ?_ h0 (by simp only [maxLen];omega) (by omega) (by omega) w.heap.size rfl ?_
 ·intro j u hu
  unfold strL at hu
  rw [List.getElem?_map] at hu
  cases hj:ys[j]? with
  |none=>rw [hj] at hu;cases hu
  |some y=>
   rw [hj] at hu
   obtain rfl:=Option.some.inj hu
   have:=hys.out j y hj
   have e:(⟨ad,0,none⟩:Addr).add j=⟨ad,j,none⟩:=by cases j<;>simp [Addr.add]
   rw [e]
   exact this
 ·intro u hu
  unfold strL at hu
  obtain ⟨y,-,rfl⟩:=List.mem_map.1 hu
  rfl
 intro g cap w2 hown hg hat hlt2
 have hne:v.ownBlock≠some sb:=fun e=>by have:=(H.out.own.lt sb e).1;omega
 have c2:=(hg.cell_far ⟨sb,0,none⟩ hlt (fun e=>hne e.symm)).trans c0
 have f2:=(hg.frozen_far ⟨sb,0,none⟩ hlt (fun e=>hne e.symm)).trans fr
 have HO:=hid hown
 have HG:=hid hg
 have HAT:=hid hat
 clear hown hg hat hys
 go_wp2_with fail
 refine bodyPost_end (v:= .tuple #[]) (by simp [results,Tryz.results70,go_sem]) rfl ?_
 have hgs:=(HO.out.lt g rfl).1
 have hset:=zxf w2 ⟨sb,0,none⟩ (.slice (some ⟨g,0,none⟩) (xs.length+m) cap)
 have hlow:Below 8 w (w2.setCell ⟨sb,0,none⟩ (.slice (some ⟨g,0,none⟩) (xs.length+m) cap)):=by
  have h8:=H.out.sb8
  have a:=zwm HG.out (fun b e=>by have:=(H.out.own.lt b e).1;omega) H.out.good.size
  have b:=zwm hset (fun b e=>by have h9:sb=b:=Option.some.inj e;omega) (Nat.le_trans H.out.good.size HG.out.size)
  exact a.trans b
 refine ⟨.slice (some ⟨g,0,none⟩) (xs.length+m) cap,rfl,⟨Nat.lt_of_lt_of_le hlt (Nat.le_trans HG.out.size hset.size),World.cell?_setCell_same _ _ _ c2,(World.frozen?_setCell _ _ _ _).trans f2,?_,H.out.good.low hlow,zj1 H.out.pow hlow,H.out.sb8⟩,⟨HG.out.os,HG.out.tape,HG.out.output,Nat.le_trans HG.out.size hset.size,?_⟩,?_⟩
 ·have:=HO.out.kept hset (.inr (fun e=>by have h9:g=sb:=Option.some.inj e;omega))
  unfold strL at this ⊢
  rw [List.map_append,List.length_append]
  rw [hm.out]
  exact this
 ·intro k hk h1 h2
  exact (hset.block k (Nat.lt_of_lt_of_le hk HG.out.size) (fun e=>h1 (Option.some.inj e))).trans (HG.out.block k hk (fun e=>h2 e.symm))
 ·intro g' hg'
  have h9:g=g':=Option.some.inj hg'
  subst h9
  rcases HAT.out with e|e
  ·exact .inl e
  ·exact .inr (by omega)
theorem z28 (E:Env) (w:World) (i d:Nat) (c:zxl) (op:Nat) (hop:op<1000) (r:Res Tree) (h:RD E w i d) (hr:Hid (runW E.T c (named op) i=some r)):
 Calls Tryz.prog 91 #[.pointer (some ⟨E.rb,0,none⟩),.int .i64 op] w (Q E w d (VN E w.heap.size) r):=by
 have H:=hid h
 have hr1:=h.lt
 have hf0:=zxw
 have hf1:=zxn
 have hf2:=zq7
 have S0:=hid (ST.below (ST.refl h) (b1 w (.cells #[.pointer none] 25)))
 have P0:=hid (PtrAt.new w none)
 have l0:=P0.out.lt
 clear h
 go_enter Tryz.func91,Tryz.ntmps91
 go_wp2_with fail
 generalize w.alloc (.cells #[.pointer none] 25)=wa at*
 rcases zzc hr.out with ⟨j1,er,hx,hq⟩|⟨a1,j1,hx,hq⟩
 ·exact (zwh E _ i d op c _ S0.out.1 hop hx).mono fun e w' h=>by obtain ⟨rfl,hg⟩:=h;exact ⟨rfl,by rw [hq];exact ⟨rfl,S0.out.2.trans hg⟩⟩
 refine (zwh E _ i d op c _ S0.out.1 hop hx).mono ?_
 rintro e w1 ⟨v1,rfl,⟨nb1,hv,hn⟩,hst⟩
 obtain rfl:=hv
 unfold zzd
 have P0':=hid (P0.out.kept hst.2 (by omega))
 clear P0
 have P0:=P0'
 clear P0'
 have N1:=hid (hn.from (B:=w.heap.size) (by omega))
 clear hn
 have S1:=hid (S0.out.trans hst)
 have z1:=hst.2.size
 clear hst
 have HR1:=hid hq
 clear hx hq
 have V:=hid (PtrAt.new w1 (some ⟨nb1,0,none⟩))
 have P0':=hid (P0.out.below (b1 w1 (.cells #[.pointer (some ⟨nb1,0,none⟩)] 25)))
 clear P0
 have P0:=P0'
 clear P0'
 have N1':=hid (N1.out.bl (b1 w1 (.cells #[.pointer (some ⟨nb1,0,none⟩)] 25)))
 clear N1
 have N1:=N1'
 clear N1'
 have S2:=hid (S1.out.below (b1 w1 (.cells #[.pointer (some ⟨nb1,0,none⟩)] 25)))
 have z2:=(b1 w1 (.cells #[.pointer (some ⟨nb1,0,none⟩)] 25)).size
 have y2:w1.heap.size<(w1.alloc (.cells #[.pointer (some ⟨nb1,0,none⟩)] 25)).heap.size:=by simp
 go_wp2_with fail
 generalize w1.alloc (.cells #[.pointer (some ⟨nb1,0,none⟩)] 25)=w2 at*
 rcases zzc HR1.out with ⟨j3,er,hx,hq⟩|⟨a3,j3,hx,hq⟩
 ·exact (zzm E _ j1 d ⟨#[59]⟩ c _ S2.out.1 (hid (by decide)) hx).mono fun e w' h=>by obtain ⟨rfl,hg⟩:=h;exact ⟨rfl,by rw [hq];exact ⟨rfl,S2.out.2.trans hg⟩⟩
 refine (zzm E _ j1 d ⟨#[59]⟩ c _ S2.out.1 (hid (by decide)) hx).mono ?_
 rintro e w3 ⟨v3,rfl,-,hst⟩
 have P0':=hid (P0.out.kept hst.2 (by omega))
 clear P0
 have P0:=P0'
 clear P0'
 have N1':=hid (N1.out.st hst.2 (by omega))
 clear N1
 have N1:=N1'
 clear N1'
 have V':=hid (V.out.kept hst.2 (by omega))
 clear V
 have V:=V'
 clear V'
 have S3:=hid (S2.out.trans hst)
 have z3:=hst.2.size
 clear hst
 have HR3:=hid hq
 clear hx hq
 have HQ:Hid (r= .ok a1 j3):=(Option.some.inj HR3.out).symm
 have V0:=V.out.c0
 have q0:=P0.out.c0
 have f0:=P0.out.f0
 go_wp2_with fail
 refine bodyPost_ret (v:=zzd nb1) (by unfold zzd;simp [results,Tryz.results91,go_sem,q0]) rfl ?_
 rw [HQ.out]
 exact zz5 H.out S3.out N1.out (by omega) _
theorem zkt (E:Env) (w:World) (i d:Nat) (c:zxl) (r:Res (Nat×List UInt8)) (h:RD E w i d) (hr:Hid (runW E.T c (fieldName) i=some r)):
 Calls Tryz.prog 224 #[.pointer (some ⟨E.rb,0,none⟩)] w (Q E w d (VW E) r):=by
 have H:=hid h
 have hr1:=h.lt
 have hf0:=zxw
 have hf1:=zxn
 have hf2:=zq7
 have S0:=hid (ST.below (ST.refl h) (b1 w (.cells #[.int .i64 0,.string ⟨#[]⟩,.int .i64 0] 108)))
 have P0:=hid (TokAt.new w 0 ⟨#[]⟩ 0)
 have l0:=P0.out.lt
 clear h
 go_enter Tryz.func224,Tryz.ntmps224
 go_wp2_with fail
 generalize w.alloc (.cells #[.int .i64 0,.string ⟨#[]⟩,.int .i64 0] 108)=wa at*
 rcases zzc hr.out with ⟨j1,er,hx,hq⟩|⟨a1,j1,hx,hq⟩
 ·exact (zzm E _ i d ⟨#[46]⟩ c _ S0.out.1 (hid (by decide)) hx).mono fun e w' h=>by obtain ⟨rfl,hg⟩:=h;exact ⟨rfl,by rw [hq];exact ⟨rfl,S0.out.2.trans hg⟩⟩
 refine (zzm E _ i d ⟨#[46]⟩ c _ S0.out.1 (hid (by decide)) hx).mono ?_
 rintro e w1 ⟨v1,rfl,-,hst⟩
 have P0':=hid (P0.out.kept hst.2 (by omega))
 clear P0
 have P0:=P0'
 clear P0'
 have S1:=hid (S0.out.trans hst)
 have z1:=hst.2.size
 clear hst
 have HR1:=hid hq
 clear hx hq
 go_wp2_with fail
 rcases zxr HR1.out with ⟨j2,er,hx,hq⟩|⟨a2,j2,hx,hq⟩
 ·exact (zki E _ j1 d c _ S1.out.1 hx).mono fun e w' h=>by obtain ⟨rfl,hg⟩:=h;exact ⟨rfl,by rw [hq];exact ⟨rfl,S1.out.2.trans hg⟩⟩
 refine (zki E _ j1 d c _ S1.out.1 hx).mono ?_
 rintro e w2 ⟨v2,rfl,⟨hv,htx⟩,hst⟩
 obtain rfl:=hv
 unfold tokV
 have P0':=hid (P0.out.kept hst.2 (by omega))
 clear P0
 have P0:=P0'
 clear P0'
 have X2:=hid htx
 clear htx
 have S2:=hid (S1.out.trans hst)
 have z2:=hst.2.size
 clear hst
 have HQ:=hid hq
 clear hx hq
 have c0:=P0.out.c0
 have c1:=P0.out.c1
 have c2:=P0.out.c2
 have f0:=P0.out.f0
 have f1:=P0.out.f1
 have f2:=P0.out.f2
 go_wp2_with fail
 refine bodyPost_ret (v:=tokV (E.T a2.1) (E.pl a2.1)) ?_ rfl ?_
 ·rw [show (tokV (E.T a2.1) (E.pl a2.1))= .agg #[.int .i64 (E.T a2.1).kind,.string ⟨(E.T a2.1).text.toArray⟩,.int .i64 (E.pl a2.1)] from rfl]
  simp [results,Tryz.results224,go_sem,c0,c1,c2]
 ·rw [HQ.out]
  exact ⟨_,rfl,⟨rfl,X2.out⟩,ST.set H.out (ST.set H.out (ST.set H.out S2.out _ _ (Nat.le_refl _) _) _ _ (Nat.le_refl _) _) _ _ (Nat.le_refl _) _⟩
theorem zka (E:Env) (w:World) (i d:Nat) (n:Nat) (ih:IH E n) (r:Res Tree) (h:RD E w i d) (hr:Hid (runW E.T (P E.T n) (expr d) i=some r)):
 Calls Tryz.prog 197 #[.pointer (some ⟨E.rb,0,none⟩)] w (Q E w d (VN E w.heap.size) r):=by
 have H:=hid h
 have hr1:=h.lt
 have hf0:=zxw
 have hf1:=zxn
 have hf2:=zq7
 have S0:=hid (ST.below (ST.refl h) (b1 w (.cells #[.pointer none] 25)))
 have P0:=hid (PtrAt.new w none)
 have l0:=P0.out.lt
 clear h
 go_enter Tryz.func197,Tryz.ntmps197
 go_wp2_with fail
 generalize w.alloc (.cells #[.pointer none] 25)=wa at*
 rcases zxx hr.out with ⟨j1,er,hx,hq⟩|⟨a1,j1,hx,hq⟩
 ·exact (ih.binary _ i d 1 _ (by omega) (by omega) S0.out.1 hx).mono fun e w' h=>by obtain ⟨rfl,hg⟩:=h;exact ⟨rfl,by rw [hq];exact ⟨rfl,S0.out.2.trans hg⟩⟩
 refine (ih.binary _ i d 1 _ (by omega) (by omega) S0.out.1 hx).mono ?_
 rintro e w1 ⟨v1,rfl,⟨nb1,hv,hn⟩,hst⟩
 obtain rfl:=hv
 unfold zzd
 have P0':=hid (P0.out.kept hst.2 (by omega))
 clear P0
 have P0:=P0'
 clear P0'
 have N1:=hid (hn.from (B:=w.heap.size) (by omega))
 clear hn
 have S1:=hid (S0.out.trans hst)
 have z1:=hst.2.size
 clear hst
 have HQ:=hid (zz7 hq)
 clear hx hq
 have q0:=P0.out.c0
 have f0:=P0.out.f0
 go_wp2_with fail
 refine bodyPost_ret (v:=zzd nb1) (by unfold zzd;simp [results,Tryz.results197,go_sem,q0]) rfl ?_
 rw [HQ.out]
 exact zz5 H.out S1.out N1.out (by omega) _
theorem zvg (E:Env) (w:World) (i d:Nat) (n:Nat) (ih:IH E n) (r:Res Tree) (h:RD E w i d) (hr:Hid (runW E.T (P E.T n) (brack d) i=some r)):
 Calls Tryz.prog 199 #[.pointer (some ⟨E.rb,0,none⟩)] w (Q E w d (VN E w.heap.size) r):=by
 have H:=hid h
 have hr1:=h.lt
 have hf0:=zxw
 have hf1:=zxn
 have hf2:=zq7
 have S0:=hid (ST.below (ST.refl h) (b1 w (.cells #[.pointer none] 25)))
 have P0:=hid (PtrAt.new w none)
 have l0:=P0.out.lt
 clear h
 go_enter Tryz.func199,Tryz.ntmps199
 go_wp2_with fail
 generalize w.alloc (.cells #[.pointer none] 25)=wa at*
 rcases zzc hr.out with ⟨j1,er,hx,hq⟩|⟨a1,j1,hx,hq⟩
 ·exact (zj5 E _ i d ⟨#[40]⟩ (P E.T n) _ S0.out.1 (hid (by decide)) hx).mono fun e w' h=>by obtain ⟨rfl,hg⟩:=h;exact ⟨rfl,by rw [hq];exact ⟨rfl,S0.out.2.trans hg⟩⟩
 refine (zj5 E _ i d ⟨#[40]⟩ (P E.T n) _ S0.out.1 (hid (by decide)) hx).mono ?_
 rintro e w1 ⟨v1,rfl,-,hst⟩
 have P0':=hid (P0.out.kept hst.2 (by omega))
 clear P0
 have P0:=P0'
 clear P0'
 have S1:=hid (S0.out.trans hst)
 have z1:=hst.2.size
 clear hst
 have HR1:=hid hq
 clear hx hq
 go_wp2_with fail
 rcases zzc HR1.out with ⟨j2,er,hx,hq⟩|⟨a2,j2,hx,hq⟩
 ·exact (zka E _ j1 (d+1) n ih _ S1.out.1 hx).mono fun e w' h=>by obtain ⟨rfl,hg⟩:=h;exact ⟨rfl,by rw [hq];exact ⟨rfl,S1.out.2.trans hg⟩⟩
 refine (zka E _ j1 (d+1) n ih _ S1.out.1 hx).mono ?_
 rintro e w2 ⟨v2,rfl,⟨nb2,hv,hn⟩,hst⟩
 obtain rfl:=hv
 unfold zzd
 have P0':=hid (P0.out.kept hst.2 (by omega))
 clear P0
 have P0:=P0'
 clear P0'
 have N2:=hid (hn.from (B:=w.heap.size) (by omega))
 clear hn
 have S2:=hid (S1.out.trans hst)
 have z2:=hst.2.size
 clear hst
 have HR2:=hid hq
 clear hx hq
 have V:=hid (PtrAt.new w2 (some ⟨nb2,0,none⟩))
 have P0':=hid (P0.out.below (b1 w2 (.cells #[.pointer (some ⟨nb2,0,none⟩)] 25)))
 clear P0
 have P0:=P0'
 clear P0'
 have N2':=hid (N2.out.bl (b1 w2 (.cells #[.pointer (some ⟨nb2,0,none⟩)] 25)))
 clear N2
 have N2:=N2'
 clear N2'
 have S3:=hid (S2.out.below (b1 w2 (.cells #[.pointer (some ⟨nb2,0,none⟩)] 25)))
 have z3:=(b1 w2 (.cells #[.pointer (some ⟨nb2,0,none⟩)] 25)).size
 have y3:w2.heap.size<(w2.alloc (.cells #[.pointer (some ⟨nb2,0,none⟩)] 25)).heap.size:=by simp
 go_wp2_with fail
 generalize w2.alloc (.cells #[.pointer (some ⟨nb2,0,none⟩)] 25)=w3 at*
 rcases zzc HR2.out with ⟨j4,er,hx,hq⟩|⟨a4,j4,hx,hq⟩
 ·exact (zzm E _ j2 (d+1) ⟨#[41]⟩ (P E.T n) _ S3.out.1 (hid (by decide)) hx).mono fun e w' h=>by obtain ⟨rfl,hg⟩:=h;exact ⟨rfl,by rw [hq];exact ⟨rfl,S3.out.2.trans hg⟩⟩
 refine (zzm E _ j2 (d+1) ⟨#[41]⟩ (P E.T n) _ S3.out.1 (hid (by decide)) hx).mono ?_
 rintro e w4 ⟨v4,rfl,-,hst⟩
 have P0':=hid (P0.out.kept hst.2 (by omega))
 clear P0
 have P0:=P0'
 clear P0'
 have N2':=hid (N2.out.st hst.2 (by omega))
 clear N2
 have N2:=N2'
 clear N2'
 have V':=hid (V.out.kept hst.2 (by omega))
 clear V
 have V:=V'
 clear V'
 have S4:=hid (S3.out.trans hst)
 have z4:=hst.2.size
 clear hst
 have HR4:=hid hq
 clear hx hq
 go_wp2_with fail
 have HQ:Hid (r= .ok a2 j4):=(Option.some.inj HR4.out).symm
 refine (z0s E _ j4 d S4.out.1).mono ?_
 rintro e w5 ⟨rfl,hst⟩
 have P0':=hid (P0.out.kept hst.2 (by omega))
 clear P0
 have P0:=P0'
 clear P0'
 have N2':=hid (N2.out.st hst.2 (by omega))
 clear N2
 have N2:=N2'
 clear N2'
 have V':=hid (V.out.kept hst.2 (by omega))
 clear V
 have V:=V'
 clear V'
 have S5:=hid (S4.out.trans hst)
 have z5:=hst.2.size
 clear hst
 have V0:=V.out.c0
 have q0:=P0.out.c0
 have f0:=P0.out.f0
 go_wp2_with fail
 refine bodyPost_ret (v:=zzd nb2) (by unfold zzd;simp [results,Tryz.results199,go_sem,q0]) rfl ?_
 rw [HQ.out]
 exact zz5 H.out S5.out N2.out (by omega) _
theorem creation_any (E:Env) (w:World) (i d:Nat) (c:zxl) (r:Res Tree) (h:RD E w i d) (hr:Hid (runW E.T c (zw8) i=some r)):
 Calls Tryz.prog 222 #[.pointer (some ⟨E.rb,0,none⟩)] w (Q E w d (VN E w.heap.size) r):=by
 have H:=hid h
 have hr1:=h.lt
 have hf0:=zxw
 have hf1:=zxn
 have hf2:=zq7
 have S0:=hid (ST.below (ST.refl h) (b1 w (.cells #[.pointer none] 25)))
 have P0:=hid (PtrAt.new w none)
 have l0:=P0.out.lt
 clear h
 go_enter Tryz.func222,Tryz.ntmps222
 go_wp2_with fail
 generalize w.alloc (.cells #[.pointer none] 25)=wa at*
 rcases zzc hr.out with ⟨j1,er,hx,hq⟩|⟨a1,j1,hx,hq⟩
 ·exact (zzm E _ i d ⟨#[110,101,119]⟩ c _ S0.out.1 (hid (by decide)) hx).mono fun e w' h=>by obtain ⟨rfl,hg⟩:=h;exact ⟨rfl,by rw [hq];exact ⟨rfl,S0.out.2.trans hg⟩⟩
 refine (zzm E _ i d ⟨#[110,101,119]⟩ c _ S0.out.1 (hid (by decide)) hx).mono ?_
 rintro e w1 ⟨v1,rfl,-,hst⟩
 have P0':=hid (P0.out.kept hst.2 (by omega))
 clear P0
 have P0:=P0'
 clear P0'
 have S1:=hid (S0.out.trans hst)
 have z1:=hst.2.size
 clear hst
 have HR1:=hid hq
 clear hx hq
 go_wp2_with fail
 rcases zzc HR1.out with ⟨j2,er,hx,hq⟩|⟨a2,j2,hx,hq⟩
 ·exact (zzm E _ j1 d ⟨#[40]⟩ c _ S1.out.1 (hid (by decide)) hx).mono fun e w' h=>by obtain ⟨rfl,hg⟩:=h;exact ⟨rfl,by rw [hq];exact ⟨rfl,S1.out.2.trans hg⟩⟩
 refine (zzm E _ j1 d ⟨#[40]⟩ c _ S1.out.1 (hid (by decide)) hx).mono ?_
 rintro e w2 ⟨v2,rfl,-,hst⟩
 have P0':=hid (P0.out.kept hst.2 (by omega))
 clear P0
 have P0:=P0'
 clear P0'
 have S2:=hid (S1.out.trans hst)
 have z2:=hst.2.size
 clear hst
 have HR2:=hid hq
 clear hx hq
 go_wp2_with fail
 rcases zzc HR2.out with ⟨j3,er,hx,hq⟩|⟨a3,j3,hx,hq⟩
 ·exact (zki E _ j2 d c _ S2.out.1 hx).mono fun e w' h=>by obtain ⟨rfl,hg⟩:=h;exact ⟨rfl,by rw [hq];exact ⟨rfl,S2.out.2.trans hg⟩⟩
 refine (zki E _ j2 d c _ S2.out.1 hx).mono ?_
 rintro e w3 ⟨v3,rfl,⟨hv,htx⟩,hst⟩
 obtain rfl:=hv
 unfold tokV
 have P0':=hid (P0.out.kept hst.2 (by omega))
 clear P0
 have P0:=P0'
 clear P0'
 have X3:=hid htx
 clear htx
 have S3:=hid (S2.out.trans hst)
 have z3:=hst.2.size
 clear hst
 have HR3:=hid hq
 clear hx hq
 have T:=hid (TokAt.new w3 (E.T a3.1).kind ⟨(E.T a3.1).text.toArray⟩ (E.pl a3.1))
 have P0':=hid (P0.out.below (b1 w3 (.cells #[.int .i64 (E.T a3.1).kind,.string ⟨(E.T a3.1).text.toArray⟩,.int .i64 (E.pl a3.1)] 108)))
 clear P0
 have P0:=P0'
 clear P0'
 have S4:=hid (S3.out.below (b1 w3 (.cells #[.int .i64 (E.T a3.1).kind,.string ⟨(E.T a3.1).text.toArray⟩,.int .i64 (E.pl a3.1)] 108)))
 have z4:=(b1 w3 (.cells #[.int .i64 (E.T a3.1).kind,.string ⟨(E.T a3.1).text.toArray⟩,.int .i64 (E.pl a3.1)] 108)).size
 have y4:w3.heap.size<(w3.alloc (.cells #[.int .i64 (E.T a3.1).kind,.string ⟨(E.T a3.1).text.toArray⟩,.int .i64 (E.pl a3.1)] 108)).heap.size:=by simp
 go_wp2_with fail
 generalize w3.alloc (.cells #[.int .i64 (E.T a3.1).kind,.string ⟨(E.T a3.1).text.toArray⟩,.int .i64 (E.pl a3.1)] 108)=w4 at*
 rcases zzc HR3.out with ⟨j5,er,hx,hq⟩|⟨a5,j5,hx,hq⟩
 ·exact (zzm E _ j3 d ⟨#[41]⟩ c _ S4.out.1 (hid (by decide)) hx).mono fun e w' h=>by obtain ⟨rfl,hg⟩:=h;exact ⟨rfl,by rw [hq];exact ⟨rfl,S4.out.2.trans hg⟩⟩
 refine (zzm E _ j3 d ⟨#[41]⟩ c _ S4.out.1 (hid (by decide)) hx).mono ?_
 rintro e w5 ⟨v5,rfl,-,hst⟩
 have P0':=hid (P0.out.kept hst.2 (by omega))
 clear P0
 have P0:=P0'
 clear P0'
 have T':=hid (T.out.kept hst.2 (by omega))
 clear T
 have T:=T'
 clear T'
 have S5:=hid (S4.out.trans hst)
 have z5:=hst.2.size
 clear hst
 have HR5:=hid hq
 clear hx hq
 have HQ:Hid (r= .ok (.mk 19 a3.2 [] 0 a3.1 []) j5):=(Option.some.inj HR5.out).symm
 have T0:=T.out.c0
 have T1:=T.out.c1
 have T2:=T.out.c2
 go_wp2_with fail
 refine (zzz _ _ _ _ _ _ _ _ _).mono ?_
 rintro e wz ⟨rfl,hb9,hrow⟩
 have P9:=P0.out.below hb9
 have q0:=P9.c0
 have f0:=P9.f0
 have HB9:=hid hb9
 have HROW:=hid hrow
 clear hb9 hrow P9
 unfold zzd
 go_wp2_with fail
 refine bodyPost_ret (v:=zzd w5.heap.size) (by unfold zzd;simp [results,Tryz.results222,go_sem,q0]) rfl ?_
 rw [HQ.out]
 have hrow:=HROW.out
 rw [X3.out] at hrow
 exact zqm H.out S5.out (KidsIn.nil (fun x=>w.heap.size<x) E.pl w5) (by omega) HB9.out hrow (by omega) (by omega) _
theorem input_any (E:Env) (w:World) (i d:Nat) (c:zxl) (r:Res Tree) (h:RD E w i d) (hr:Hid (runW E.T c (input) i=some r)):
 Calls Tryz.prog 223 #[.pointer (some ⟨E.rb,0,none⟩)] w (Q E w d (VN E w.heap.size) r):=by
 have H:=hid h
 have hr1:=h.lt
 have hf0:=zxw
 have hf1:=zxn
 have hf2:=zq7
 have S0:=hid (ST.below (ST.refl h) (b1 w (.cells #[.pointer none] 25)))
 have P0:=hid (PtrAt.new w none)
 have l0:=P0.out.lt
 clear h
 go_enter Tryz.func223,Tryz.ntmps223
 go_wp2_with fail
 generalize w.alloc (.cells #[.pointer none] 25)=wa at*
 rcases zzc hr.out with ⟨j1,er,hx,hq⟩|⟨a1,j1,hx,hq⟩
 ·exact (zzm E _ i d ⟨#[114,101,97,100]⟩ c _ S0.out.1 (hid (by decide)) hx).mono fun e w' h=>by obtain ⟨rfl,hg⟩:=h;exact ⟨rfl,by rw [hq];exact ⟨rfl,S0.out.2.trans hg⟩⟩
 refine (zzm E _ i d ⟨#[114,101,97,100]⟩ c _ S0.out.1 (hid (by decide)) hx).mono ?_
 rintro e w1 ⟨v1,rfl,hv,hst⟩
 obtain rfl:=hv
 unfold tokV
 have P0':=hid (P0.out.kept hst.2 (by omega))
 clear P0
 have P0:=P0'
 clear P0'
 have S1:=hid (S0.out.trans hst)
 have z1:=hst.2.size
 clear hst
 have HR1:=hid hq
 clear hx hq
 go_wp2_with fail
 rcases zzc HR1.out with ⟨j2,er,hx,hq⟩|⟨a2,j2,hx,hq⟩
 ·exact (zzm E _ j1 d ⟨#[40]⟩ c _ S1.out.1 (hid (by decide)) hx).mono fun e w' h=>by obtain ⟨rfl,hg⟩:=h;exact ⟨rfl,by rw [hq];exact ⟨rfl,S1.out.2.trans hg⟩⟩
 refine (zzm E _ j1 d ⟨#[40]⟩ c _ S1.out.1 (hid (by decide)) hx).mono ?_
 rintro e w2 ⟨v2,rfl,-,hst⟩
 have P0':=hid (P0.out.kept hst.2 (by omega))
 clear P0
 have P0:=P0'
 clear P0'
 have S2:=hid (S1.out.trans hst)
 have z2:=hst.2.size
 clear hst
 have HR2:=hid hq
 clear hx hq
 go_wp2_with fail
 rcases zzc HR2.out with ⟨j3,er,hx,hq⟩|⟨a3,j3,hx,hq⟩
 ·exact (zzm E _ j2 d ⟨#[41]⟩ c _ S2.out.1 (hid (by decide)) hx).mono fun e w' h=>by obtain ⟨rfl,hg⟩:=h;exact ⟨rfl,by rw [hq];exact ⟨rfl,S2.out.2.trans hg⟩⟩
 refine (zzm E _ j2 d ⟨#[41]⟩ c _ S2.out.1 (hid (by decide)) hx).mono ?_
 rintro e w3 ⟨v3,rfl,-,hst⟩
 have P0':=hid (P0.out.kept hst.2 (by omega))
 clear P0
 have P0:=P0'
 clear P0'
 have S3:=hid (S2.out.trans hst)
 have z3:=hst.2.size
 clear hst
 have HR3:=hid hq
 clear hx hq
 have HQ:Hid (r= .ok (.mk 22 [] [] 0 a1 []) j3):=(Option.some.inj HR3.out).symm
 go_wp2_with fail
 refine (zzz _ _ _ _ _ _ _ _ _).mono ?_
 rintro e wz ⟨rfl,hb9,hrow⟩
 have P9:=P0.out.below hb9
 have q0:=P9.c0
 have f0:=P9.f0
 have HB9:=hid hb9
 have HROW:=hid hrow
 clear hb9 hrow P9
 unfold zzd
 go_wp2_with fail
 refine bodyPost_ret (v:=zzd w3.heap.size) (by unfold zzd;simp [results,Tryz.results223,go_sem,q0]) rfl ?_
 rw [HQ.out]
 have hrow:=HROW.out
 exact zqm H.out S3.out (KidsIn.nil (fun x=>w.heap.size<x) E.pl w3) (by omega) HB9.out hrow (by omega) (by omega) _
theorem KidsIn.slice {ok:Nat→Prop} {pl:Nat→Nat} {w:World} {v:Value} {n:Nat} {ts:List Tree} (h:KidsIn ok pl w v n ts):∃ A c,v= .slice A n c∧n≤c∧(0<n→∃ g,A=some ⟨g,0,none⟩∧v.ownBlock=some g):=by
 obtain ⟨bs,h1,-⟩:=h
 exact slice_of h1
theorem zkz (E:Env) (w:World) (i d:Nat) (n:Nat) (ih:IH E n) (r:Res Tree) (h:RD E w i d) (hr:Hid (runW E.T (P E.T n) (block d) i=some r)):
 Calls Tryz.prog 132 #[.pointer (some ⟨E.rb,0,none⟩)] w (Q E w d (VN E w.heap.size) r):=by
 have H:=hid h
 have hr1:=h.lt
 have hf0:=zxw
 have hf1:=zxn
 have hf2:=zq7
 have S0:=hid (ST.below (ST.refl h) (b1 w (.cells #[.pointer none] 25)))
 have P0:=hid (PtrAt.new w none)
 have l0:=P0.out.lt
 clear h
 go_enter Tryz.func132,Tryz.ntmps132
 go_wp2_with fail
 generalize w.alloc (.cells #[.pointer none] 25)=wa at*
 rcases zzc hr.out with ⟨j1,er,hx,hq⟩|⟨a1,j1,hx,hq⟩
 ·exact (zj5 E _ i d ⟨#[123]⟩ (P E.T n) _ S0.out.1 (hid (by decide)) hx).mono fun e w' h=>by obtain ⟨rfl,hg⟩:=h;exact ⟨rfl,by rw [hq];exact ⟨rfl,S0.out.2.trans hg⟩⟩
 refine (zj5 E _ i d ⟨#[123]⟩ (P E.T n) _ S0.out.1 (hid (by decide)) hx).mono ?_
 rintro e w1 ⟨v1,rfl,hv,hst⟩
 obtain rfl:=hv
 unfold tokV
 have P0':=hid (P0.out.kept hst.2 (by omega))
 clear P0
 have P0:=P0'
 clear P0'
 have S1:=hid (S0.out.trans hst)
 have z1:=hst.2.size
 clear hst
 have HR1:=hid hq
 clear hx hq
 obtain ⟨rs,hrs,hbad,hok⟩:=zvs HR1.out
 have HRS:=hid hrs
 have HBAD:=hid hbad
 have HOK:=hid hok
 clear hrs hbad hok
 have hz:=H.out.zle
 go_wp2_with fail
 go_loopw [4] (fun v wr=>KRel E n w w.heap.size .stmts (d+1) rs v wr) (fun _ wr=>E.z - nx E wr)
 case atStart=>exact ⟨n,0,j1,[],rs,Nat.le_refl _,Nat.zero_le _,by omega,HRS,hid (z1f rs).symm,KidsIn.nil _ _ _,S1,P0⟩
 case round=>
  obtain ⟨m,k,iq,ts,rq,hm,hk,hB,HP,HE,K,S,P0⟩:=hrel
  obtain ⟨m,rfl,hp⟩:=P_pos HP.out
  have HR:=hid hp
  clear hp HP
  have hiz:=S.out.1.ile
  have hnx:=S.out.1.at_nx
  have HNX:=hid hnx
  clear hnx
  by_cases ht:(E.T iq).text=cRC
  ·skip
   have h0:=zq9 HR.out ht
   have HR2:=hid (zq4 h0)
   clear h0
   have hq:=zz7 HR2.out
   have hrs:rs= .ok ts (iq+1):=by rw [HE.out,hq];simp [preR]
   have HQ:Hid (r= .ok (.mk 6 [] [] 0 a1 ts) (iq+1)):=zz7 (HOK.out _ _ hrs)
   clear hq hrs
   go_wp2_with fail
   refine (zke E _ iq (d+1) ⟨#[125]⟩ S.out.1 ht (hid (by decide))).mono ?_
   rintro e w3 ⟨rfl,hst⟩
   have K':=hid (K.out.st hst.2 (by omega))
   clear K
   have K:=K'
   clear K'
   have P0':=hid (P0.out.kept hst.2 (by omega))
   clear P0
   have P0:=P0'
   clear P0'
   have S3:=hid (S.out.trans hst)
   have z3:=hst.2.size
   clear hst
   clear ht
   go_wp2_with fail
   refine (z0s E _ (iq+1) d S3.out.1).mono ?_
   rintro e w4 ⟨rfl,hst⟩
   have K':=hid (K.out.st hst.2 (by omega))
   clear K
   have K:=K'
   clear K'
   have P0':=hid (P0.out.kept hst.2 (by omega))
   clear P0
   have P0:=P0'
   clear P0'
   have S4:=hid (S3.out.trans hst)
   have z4:=hst.2.size
   clear hst
   obtain ⟨Ak,ck,hvk,-,-⟩:=K.out.slice
   subst hvk
   go_wp2_with fail
   refine (zzz _ _ _ _ _ _ _ _ _).mono ?_
   rintro e w9 ⟨rfl,hb9,hrow⟩
   have P9:=P0.out.below hb9
   have q0:=P9.c0
   have f0:=P9.f0
   have HB9:=hid hb9
   have HROW:=hid hrow
   clear hb9 hrow P9
   unfold zzd
   go_wp2_with fail
   refine bodyPost_ret (v:=zzd w4.heap.size) (by unfold zzd;simp [results,Tryz.results132,go_sem,q0]) rfl ?_
   rw [HQ.out]
   have hrow:=HROW.out
   exact zqm H.out S4.out K.out (by omega) HB9.out hrow (by omega) (by omega) _
  ·skip
   have HR5:=hid (zk6 HR.out ht)
   go_wp2_with fail
   refine (zk5 E _ iq (d+1) ⟨#[125]⟩ S.out.1 ht).mono ?_
   rintro e w6 ⟨rfl,hb⟩
   have K':=hid (K.out.bl hb)
   clear K
   have K:=K'
   clear K'
   have P0':=hid (P0.out.below hb)
   clear P0
   have P0:=P0'
   clear P0'
   have S6:=hid (S.out.below hb)
   have z6:=hb.size
   clear hb
   clear ht
   go_wp2_with fail
   have KL:=hid K.out.lt
   rcases zxx HR5.out with ⟨j7,er,hx,hq⟩|⟨a7,j7,hx,hq⟩
   ·exact (ih.stmt _ iq (d+1) _ S6.out.1 (z3l E.T (by omega) _ _ _ _ hx)).mono fun e w' h=>by obtain ⟨rfl,hg⟩:=h;exact ⟨rfl,by rw [HBAD.out j7 er (by rw [HE.out,hq];rfl)];exact ⟨rfl,S6.out.2.trans hg⟩⟩
   have hpr:=P_prog S.out.1.sent (nt:= .stmt) trivial hiz hx
   simp only [minc] at hpr
   refine (ih.stmt _ iq (d+1) _ S6.out.1 (z3l E.T (by omega) _ _ _ _ hx)).mono ?_
   rintro e w7 ⟨v7,rfl,⟨nb7,hv,hn⟩,hst⟩
   obtain rfl:=hv
   unfold zzd
   have K':=hid (K.out.st hst.2 (by omega))
   clear K
   have K:=K'
   clear K'
   have P0':=hid (P0.out.kept hst.2 (by omega))
   clear P0
   have P0:=P0'
   clear P0'
   have N7:=hid (hn.from (B:=w.heap.size) (by omega))
   have M7:=hid hn
   clear hn
   have S7:=hid (S6.out.trans hst)
   have z7:=hst.2.size
   clear hst
   rcases zxx hq with ⟨j9,er,hy,hq2⟩|⟨a9,j9,hy,hq2⟩
   ·skip
    have HP:Hid (P E.T m .stmts (d+1) j7=some (.bad j9 er)):=hy
    have HE2:Hid (rs=preR (ts++ [hd a7]) (.bad j9 er)):=by show _=_;rw [HE.out,hq2];rfl
    clear hx hq hy hq2
    have L:=hid (show (w7.alloc (.cells #[.pointer (some ⟨nb7,0,none⟩)] 25)).cell? ⟨w7.heap.size,0,none⟩=some (.pointer (some ⟨nb7,0,none⟩)) by simp [go_sem])
    have K':=hid (K.out.bl (b1 w7 (.cells #[.pointer (some ⟨nb7,0,none⟩)] 25)))
    clear K
    have K:=K'
    clear K'
    have P0':=hid (P0.out.below (b1 w7 (.cells #[.pointer (some ⟨nb7,0,none⟩)] 25)))
    clear P0
    have P0:=P0'
    clear P0'
    have N7':=hid (N7.out.bl (b1 w7 (.cells #[.pointer (some ⟨nb7,0,none⟩)] 25)))
    clear N7
    have N7:=N7'
    clear N7'
    have M7':=hid (M7.out.bl (b1 w7 (.cells #[.pointer (some ⟨nb7,0,none⟩)] 25)))
    clear M7
    have M7:=M7'
    clear M7'
    have S8:=hid (S7.out.below (b1 w7 (.cells #[.pointer (some ⟨nb7,0,none⟩)] 25)))
    have z8:=(b1 w7 (.cells #[.pointer (some ⟨nb7,0,none⟩)] 25)).size
    have y8:w7.heap.size<(w7.alloc (.cells #[.pointer (some ⟨nb7,0,none⟩)] 25)).heap.size:=by simp
    go_wp2_with (at_builtin;refine Hid.out ?_)
    generalize w7.alloc (.cells #[.pointer (some ⟨nb7,0,none⟩)] 25)=w8 at*
    refine hid ?_
    refine zzs rfl (.tmp 11) (.tmp 14) rfl w.heap.size E.pl _ k ts rfl K.out nb7 (hd a7) N7.out (fun g hg=>M7.out.weak fun x hx _=>⟨by omega,by have:=KL.out g hg;omega⟩) _ rfl L.out (by omega) (by omega) ?_
    intro g9 cap9 w9 hk hg hy
    have P0':=hid (P0.out.grow hg (fun e=>by have:=hy _ e;omega))
    clear P0
    have P0:=P0'
    clear P0'
    have S9:=hid (ST.grow H.out S8.out hg (fun y e=>by have:=hy y e;omega))
    have z9:=hg.size
    clear K
    have K:=hid hk
    clear hk hg hy
    have hnx2:=S9.out.1.at_nx
    have HNX2:=hid hnx2
    clear hnx2
    go_wp2_with fail
    go_roundw
    case rel=>exact ⟨m,k+1,_,_,_,by omega,by omega,by omega,HP,HE2,K,S9,P0⟩
    case measure=>rw [HNX.out,HNX2.out];omega
   ·skip
    have HP:Hid (P E.T m .stmts (d+1) j7=some (.ok a9 j9)):=hy
    have HE2:Hid (rs=preR (ts++ [hd a7]) (.ok a9 j9)):=by show _=_;rw [HE.out,zz7 hq2];simp [preR]
    clear hx hq hy hq2
    have L:=hid (show (w7.alloc (.cells #[.pointer (some ⟨nb7,0,none⟩)] 25)).cell? ⟨w7.heap.size,0,none⟩=some (.pointer (some ⟨nb7,0,none⟩)) by simp [go_sem])
    have K':=hid (K.out.bl (b1 w7 (.cells #[.pointer (some ⟨nb7,0,none⟩)] 25)))
    clear K
    have K:=K'
    clear K'
    have P0':=hid (P0.out.below (b1 w7 (.cells #[.pointer (some ⟨nb7,0,none⟩)] 25)))
    clear P0
    have P0:=P0'
    clear P0'
    have N7':=hid (N7.out.bl (b1 w7 (.cells #[.pointer (some ⟨nb7,0,none⟩)] 25)))
    clear N7
    have N7:=N7'
    clear N7'
    have M7':=hid (M7.out.bl (b1 w7 (.cells #[.pointer (some ⟨nb7,0,none⟩)] 25)))
    clear M7
    have M7:=M7'
    clear M7'
    have S10:=hid (S7.out.below (b1 w7 (.cells #[.pointer (some ⟨nb7,0,none⟩)] 25)))
    have z10:=(b1 w7 (.cells #[.pointer (some ⟨nb7,0,none⟩)] 25)).size
    have y10:w7.heap.size<(w7.alloc (.cells #[.pointer (some ⟨nb7,0,none⟩)] 25)).heap.size:=by simp
    go_wp2_with (at_builtin;refine Hid.out ?_)
    generalize w7.alloc (.cells #[.pointer (some ⟨nb7,0,none⟩)] 25)=w10 at*
    refine hid ?_
    refine zzs rfl (.tmp 11) (.tmp 14) rfl w.heap.size E.pl _ k ts rfl K.out nb7 (hd a7) N7.out (fun g hg=>M7.out.weak fun x hx _=>⟨by omega,by have:=KL.out g hg;omega⟩) _ rfl L.out (by omega) (by omega) ?_
    intro g11 cap11 w11 hk hg hy
    have P0':=hid (P0.out.grow hg (fun e=>by have:=hy _ e;omega))
    clear P0
    have P0:=P0'
    clear P0'
    have S11:=hid (ST.grow H.out S10.out hg (fun y e=>by have:=hy y e;omega))
    have z11:=hg.size
    clear K
    have K:=hid hk
    clear hk hg hy
    have hnx2:=S11.out.1.at_nx
    have HNX2:=hid hnx2
    clear hnx2
    go_wp2_with fail
    go_roundw
    case rel=>exact ⟨m,k+1,_,_,_,by omega,by omega,by omega,HP,HE2,K,S11,P0⟩
    case measure=>rw [HNX.out,HNX2.out];omega
theorem expr_prog {T:Nat→AT} {z m d i j:Nat} {x:Tree} (S:Sent T z) (hi:i≤z) (h:runW T (P T m) (expr d) i=some (.ok x j)):i+1≤j∧j≤z:=by
 rcases zxx h with ⟨j',e,h1,h2⟩|⟨a,j',h1,h2⟩
 ·cases h2
 ·have:=zz7 h2
  injection this with e1 e2
  subst e2
  exact P_prog S (nt:= .binary 1) (Nat.le_refl 1) hi h1
theorem z3j (E:Env) (w:World) (i d:Nat) (n:Nat) (ih:IH E n) (r:Res (List Tree)) (h:RD E w i d) (hr:Hid (runW E.T (P E.T n) (args d) i=some r)):
 Calls Tryz.prog 239 #[.pointer (some ⟨E.rb,0,none⟩)] w (Q E w d (VL E w.heap.size) r):=by
 have H:=hid h
 have hr1:=h.lt
 have hf0:=zxw
 have hf1:=zxn
 have hf2:=zq7
 have S0:=hid (ST.refl h)
 clear h
 go_enter Tryz.func239,Tryz.ntmps239
 go_wp2_with fail
 have hz:=H.out.zle
 rcases zzc hr.out with ⟨j1,er,hx,hq⟩|⟨a1,j1,hx,hq⟩
 ·exact (zj5 E _ i d ⟨#[40]⟩ (P E.T n) _ S0.out.1 (hid (by decide)) hx).mono fun e w' h=>by obtain ⟨rfl,hg⟩:=h;exact ⟨rfl,by rw [hq];exact ⟨rfl,S0.out.2.trans hg⟩⟩
 refine (zj5 E _ i d ⟨#[40]⟩ (P E.T n) _ S0.out.1 (hid (by decide)) hx).mono ?_
 rintro e w1 ⟨v1,rfl,-,hst⟩
 have S1:=hid (S0.out.trans hst)
 have z1:=hst.2.size
 clear hst
 have HR1:=hid hq
 clear hx hq
 go_wp2_with fail
 by_cases ht:(E.T j1).text=cRB
 ·skip
  have h0:=zq9 HR1.out ht
  have HR2:=hid h0
  clear h0
  refine (is_yes E _ j1 (d+1) ⟨#[41]⟩ S1.out.1 ht).mono ?_
  rintro e w3 ⟨rfl,hb⟩
  have S3:=hid (S1.out.below hb)
  have z3:=hb.size
  clear hb
  clear ht
  go_wp2_with fail
  rcases zzc HR2.out with ⟨j9,er,hx,hq⟩|⟨a9,j9,hx,hq⟩
  ·exact (zzm E _ j1 (d+1) ⟨#[41]⟩ (P E.T n) _ S3.out.1 (hid (by decide)) hx).mono fun e w' h=>by obtain ⟨rfl,hg⟩:=h;exact ⟨rfl,by rw [hq];exact ⟨rfl,S3.out.2.trans hg⟩⟩
  refine (zzm E _ j1 (d+1) ⟨#[41]⟩ (P E.T n) _ S3.out.1 (hid (by decide)) hx).mono ?_
  rintro e w9 ⟨v9,rfl,-,hst⟩
  have S9:=hid (S3.out.trans hst)
  have z9:=hst.2.size
  clear hst
  have HQ:=hid (zz7 hq)
  clear hx hq
  go_wp2_with fail
  refine (z0s E _ j9 d S9.out.1).mono ?_
  rintro e w10 ⟨rfl,hst⟩
  have S10:=hid (S9.out.trans hst)
  have z10:=hst.2.size
  clear hst
  go_wp2_with fail
  go_ret
  rw [HQ.out]
  exact ⟨_,rfl,vl_end (KidsIn.nil _ _ _) (by omega),S10.out⟩
 ·skip
  have HR11:=hid (zk6 HR1.out ht)
  refine (is_no E _ j1 (d+1) ⟨#[41]⟩ S1.out.1 ht).mono ?_
  rintro e w12 ⟨rfl,hb⟩
  have S12:=hid (S1.out.below hb)
  have z12:=hb.size
  clear hb
  clear ht
  go_wp2_with fail
  have K:=hid (KidsIn.nil (fun x=>w.heap.size - 1<x) E.pl w12)
  have KL:=hid K.out.lt
  rcases zzc HR11.out with ⟨j13,er,hx,hq⟩|⟨a13,j13,hx,hq⟩
  ·exact (zka E _ j1 (d+1) n ih _ S12.out.1 hx).mono fun e w' h=>by obtain ⟨rfl,hg⟩:=h;exact ⟨rfl,by rw [hq];exact ⟨rfl,S12.out.2.trans hg⟩⟩
  have hp1:=expr_prog S12.out.1.sent S12.out.1.ile hx
  refine (zka E _ j1 (d+1) n ih _ S12.out.1 hx).mono ?_
  rintro e w13 ⟨v13,rfl,⟨nb13,hv,hn⟩,hst⟩
  obtain rfl:=hv
  unfold zzd
  have K':=hid (K.out.st hst.2 (by omega))
  clear K
  have K:=K'
  clear K'
  have N13:=hid (hn.from (B:=(w.heap.size - 1)) (by omega))
  have M13:=hid hn
  clear hn
  have S13:=hid (S12.out.trans hst)
  have z13:=hst.2.size
  clear hst
  have HR13:=hid hq
  clear hx hq
  obtain ⟨rs,hrs,hbad,hok⟩:=zvs HR13.out
  have HRS:=hid hrs
  have HBAD:Hid (∀ j e,preR [a13] rs= .bad j e→r= .bad j e):=fun j e h=>hbad j e (preR_bad h)
  have HOK:Hid (∀ a j,preR [a13] rs= .ok a j→r= .ok a j):=fun a j h=>by obtain ⟨a',h1,h2⟩:=preR_ok h;rw [zz7 (hok a' j h1),h2];rfl
  clear hrs hbad hok
  have h1i:1≤j13:=by omega
  have L:=hid (show (w13.alloc (.cells #[.pointer (some ⟨nb13,0,none⟩)] 25)).cell? ⟨w13.heap.size,0,none⟩=some (.pointer (some ⟨nb13,0,none⟩)) by simp [go_sem])
  have K':=hid (K.out.bl (b1 w13 (.cells #[.pointer (some ⟨nb13,0,none⟩)] 25)))
  clear K
  have K:=K'
  clear K'
  have N13':=hid (N13.out.bl (b1 w13 (.cells #[.pointer (some ⟨nb13,0,none⟩)] 25)))
  clear N13
  have N13:=N13'
  clear N13'
  have M13':=hid (M13.out.bl (b1 w13 (.cells #[.pointer (some ⟨nb13,0,none⟩)] 25)))
  clear M13
  have M13:=M13'
  clear M13'
  have S14:=hid (S13.out.below (b1 w13 (.cells #[.pointer (some ⟨nb13,0,none⟩)] 25)))
  have z14:=(b1 w13 (.cells #[.pointer (some ⟨nb13,0,none⟩)] 25)).size
  have y14:w13.heap.size<(w13.alloc (.cells #[.pointer (some ⟨nb13,0,none⟩)] 25)).heap.size:=by simp
  go_wp2_with (at_builtin;refine Hid.out ?_)
  generalize w13.alloc (.cells #[.pointer (some ⟨nb13,0,none⟩)] 25)=w14 at*
  refine hid ?_
  refine zzs rfl (.tmp 9) (.tmp 12) rfl (w.heap.size - 1) E.pl _ 0 [] rfl K.out nb13 a13 N13.out (fun g hg=>M13.out.weak fun x hx _=>⟨by omega,by have:=KL.out g hg;omega⟩) _ rfl L.out (by omega) (by omega) ?_
  intro g15 cap15 w15 hk hg hy
  have S15:=hid (ST.grow H.out S14.out hg (fun y e=>by have:=hy y e;omega))
  have z15:=hg.size
  clear K
  have K:=hid hk
  clear hk hg hy
  go_wp2_with fail
  go_loopw [3] (fun v wr=>KRelL E n w .args (d+1) (d+1) (preR [a13] rs) v wr) (fun _ wr=>E.z - nx E wr)
  case atStart=>exact ⟨n,1,j13,[a13],rs,Nat.le_refl _,h1i,by omega,HRS,hid rfl,K,S15⟩
  case round=>
   obtain ⟨m,k,iq,ts,rq,hm,hk,hB,HP,HE,K,S⟩:=hrel
   obtain ⟨m,rfl,hp⟩:=P_pos HP.out
   have HR:=hid hp
   clear hp HP
   have hiz:=S.out.1.ile
   have hnx:=S.out.1.at_nx
   have HNX:=hid hnx
   clear hnx
   by_cases ht:(E.T iq).text=zqd
   ·skip
    have h0:=zq9 HR.out ht
    have HR16:=hid (zq4 h0)
    clear h0
    go_wp2_with fail
    refine (zke E _ iq (d+1) ⟨#[44]⟩ S.out.1 ht (hid (by decide))).mono ?_
    rintro e w17 ⟨rfl,hst⟩
    have K':=hid (K.out.st hst.2 (by omega))
    clear K
    have K:=K'
    clear K'
    have S17:=hid (S.out.trans hst)
    have z17:=hst.2.size
    clear hst
    clear ht
    go_wp2_with fail
    have KL2:=hid K.out.lt
    have hiz2:=S17.out.1.ile
    rcases zzc HR16.out with ⟨j18,er,hx,hq⟩|⟨a18,j18,hx,hq⟩
    ·exact (zka E _ (iq+1) (d+1) n ih _ S17.out.1 (z0m E.T (by omega) _ _ _ hx)).mono fun e w' h=>by obtain ⟨rfl,hg⟩:=h;exact ⟨rfl,by rw [HBAD.out j18 er (by rw [HE.out,hq];rfl)];exact ⟨rfl,S17.out.2.trans hg⟩⟩
    have hpr:=expr_prog S17.out.1.sent S17.out.1.ile hx
    refine (zka E _ (iq+1) (d+1) n ih _ S17.out.1 (z0m E.T (by omega) _ _ _ hx)).mono ?_
    rintro e w18 ⟨v18,rfl,⟨nb18,hv,hn⟩,hst⟩
    obtain rfl:=hv
    unfold zzd
    have K':=hid (K.out.st hst.2 (by omega))
    clear K
    have K:=K'
    clear K'
    have N18:=hid (hn.from (B:=(w.heap.size - 1)) (by omega))
    have M18:=hid hn
    clear hn
    have S18:=hid (S17.out.trans hst)
    have z18:=hst.2.size
    clear hst
    rcases zxx hq with ⟨j9,er,hy,hq2⟩|⟨a9,j9,hy,hq2⟩
    ·skip
     have HP:Hid (P E.T m .args (d+1) j18=some (.bad j9 er)):=hy
     have HE2:Hid (preR [a13] rs=preR (ts++ [a18]) (.bad j9 er)):=by show _=_;rw [HE.out,hq2];rfl
     clear hx hq hy hq2
     have L:=hid (show (w18.alloc (.cells #[.pointer (some ⟨nb18,0,none⟩)] 25)).cell? ⟨w18.heap.size,0,none⟩=some (.pointer (some ⟨nb18,0,none⟩)) by simp [go_sem])
     have K':=hid (K.out.bl (b1 w18 (.cells #[.pointer (some ⟨nb18,0,none⟩)] 25)))
     clear K
     have K:=K'
     clear K'
     have N18':=hid (N18.out.bl (b1 w18 (.cells #[.pointer (some ⟨nb18,0,none⟩)] 25)))
     clear N18
     have N18:=N18'
     clear N18'
     have M18':=hid (M18.out.bl (b1 w18 (.cells #[.pointer (some ⟨nb18,0,none⟩)] 25)))
     clear M18
     have M18:=M18'
     clear M18'
     have S19:=hid (S18.out.below (b1 w18 (.cells #[.pointer (some ⟨nb18,0,none⟩)] 25)))
     have z19:=(b1 w18 (.cells #[.pointer (some ⟨nb18,0,none⟩)] 25)).size
     have y19:w18.heap.size<(w18.alloc (.cells #[.pointer (some ⟨nb18,0,none⟩)] 25)).heap.size:=by simp
     go_wp2_with (at_builtin;refine Hid.out ?_)
     generalize w18.alloc (.cells #[.pointer (some ⟨nb18,0,none⟩)] 25)=w19 at*
     refine hid ?_
     refine zzs rfl (.tmp 16) (.tmp 19) rfl (w.heap.size - 1) E.pl _ k ts rfl K.out nb18 a18 N18.out (fun g hg=>M18.out.weak fun x hx _=>⟨by omega,by have:=KL2.out g hg;omega⟩) _ rfl L.out (by omega) (by omega) ?_
     intro g20 cap20 w20 hk hg hy
     have S20:=hid (ST.grow H.out S19.out hg (fun y e=>by have:=hy y e;omega))
     have z20:=hg.size
     clear K
     have K:=hid hk
     clear hk hg hy
     have hnx2:=S20.out.1.at_nx
     have HNX2:=hid hnx2
     clear hnx2
     go_wp2_with fail
     go_roundw
     case rel=>exact ⟨m,k+1,_,_,_,by omega,by omega,by omega,HP,HE2,K,S20⟩
     case measure=>rw [HNX.out,HNX2.out];omega
    ·skip
     have HP:Hid (P E.T m .args (d+1) j18=some (.ok a9 j9)):=hy
     have HE2:Hid (preR [a13] rs=preR (ts++ [a18]) (.ok a9 j9)):=by show _=_;rw [HE.out,zz7 hq2];simp [preR]
     clear hx hq hy hq2
     have L:=hid (show (w18.alloc (.cells #[.pointer (some ⟨nb18,0,none⟩)] 25)).cell? ⟨w18.heap.size,0,none⟩=some (.pointer (some ⟨nb18,0,none⟩)) by simp [go_sem])
     have K':=hid (K.out.bl (b1 w18 (.cells #[.pointer (some ⟨nb18,0,none⟩)] 25)))
     clear K
     have K:=K'
     clear K'
     have N18':=hid (N18.out.bl (b1 w18 (.cells #[.pointer (some ⟨nb18,0,none⟩)] 25)))
     clear N18
     have N18:=N18'
     clear N18'
     have M18':=hid (M18.out.bl (b1 w18 (.cells #[.pointer (some ⟨nb18,0,none⟩)] 25)))
     clear M18
     have M18:=M18'
     clear M18'
     have S21:=hid (S18.out.below (b1 w18 (.cells #[.pointer (some ⟨nb18,0,none⟩)] 25)))
     have z21:=(b1 w18 (.cells #[.pointer (some ⟨nb18,0,none⟩)] 25)).size
     have y21:w18.heap.size<(w18.alloc (.cells #[.pointer (some ⟨nb18,0,none⟩)] 25)).heap.size:=by simp
     go_wp2_with (at_builtin;refine Hid.out ?_)
     generalize w18.alloc (.cells #[.pointer (some ⟨nb18,0,none⟩)] 25)=w21 at*
     refine hid ?_
     refine zzs rfl (.tmp 16) (.tmp 19) rfl (w.heap.size - 1) E.pl _ k ts rfl K.out nb18 a18 N18.out (fun g hg=>M18.out.weak fun x hx _=>⟨by omega,by have:=KL2.out g hg;omega⟩) _ rfl L.out (by omega) (by omega) ?_
     intro g22 cap22 w22 hk hg hy
     have S22:=hid (ST.grow H.out S21.out hg (fun y e=>by have:=hy y e;omega))
     have z22:=hg.size
     clear K
     have K:=hid hk
     clear hk hg hy
     have hnx2:=S22.out.1.at_nx
     have HNX2:=hid hnx2
     clear hnx2
     go_wp2_with fail
     go_roundw
     case rel=>exact ⟨m,k+1,_,_,_,by omega,by omega,by omega,HP,HE2,K,S22⟩
     case measure=>rw [HNX.out,HNX2.out];omega
   ·skip
    have HR23:=hid (zk6 HR.out ht)
    go_wp2_with fail
    refine (zk5 E _ iq (d+1) ⟨#[44]⟩ S.out.1 ht).mono ?_
    rintro e w24 ⟨rfl,hb⟩
    have K':=hid (K.out.bl hb)
    clear K
    have K:=K'
    clear K'
    have S24:=hid (S.out.below hb)
    have z24:=hb.size
    clear hb
    clear ht
    go_wp2_with fail
    rcases zzc HR23.out with ⟨j25,er,hx,hq⟩|⟨a25,j25,hx,hq⟩
    ·exact (zzm E _ iq (d+1) ⟨#[41]⟩ (P E.T m) _ S24.out.1 (hid (by decide)) hx).mono fun e w' h=>by obtain ⟨rfl,hg⟩:=h;exact ⟨rfl,by rw [HBAD.out j25 er (by rw [HE.out,hq];rfl)];exact ⟨rfl,S24.out.2.trans hg⟩⟩
    refine (zzm E _ iq (d+1) ⟨#[41]⟩ (P E.T m) _ S24.out.1 (hid (by decide)) hx).mono ?_
    rintro e w25 ⟨v25,rfl,-,hst⟩
    have K':=hid (K.out.st hst.2 (by omega))
    clear K
    have K:=K'
    clear K'
    have S25:=hid (S24.out.trans hst)
    have z25:=hst.2.size
    clear hst
    have HQ:Hid (r= .ok ts j25):=HOK.out _ _ (by rw [HE.out,zz7 hq];simp [preR])
    clear hx hq
    go_wp2_with fail
    refine (z0s E _ j25 d S25.out.1).mono ?_
    rintro e w26 ⟨rfl,hst⟩
    have K':=hid (K.out.st hst.2 (by omega))
    clear K
    have K:=K'
    clear K'
    have S26:=hid (S25.out.trans hst)
    have z26:=hst.2.size
    clear hst
    go_wp2_with fail
    go_ret
    rw [HQ.out]
    exact ⟨_,rfl,vl_end K.out (by omega),S26.out⟩
theorem parts_any (E:Env) (w:World) (i d:Nat) (n:Nat) (_:IH E n) (r:Res (List Tree)) (h:RD E w i d) (hr:Hid (runW E.T (P E.T n) (fparts) i=some r)):
 Calls Tryz.prog 130 #[.pointer (some ⟨E.rb,0,none⟩)] w (Q E w d (VL E w.heap.size) r):=by
 have H:=hid h
 have hr1:=h.lt
 have hf0:=zxw
 have hf1:=zxn
 have hf2:=zq7
 have S0:=hid (ST.refl h)
 clear h
 go_enter Tryz.func130,Tryz.ntmps130
 go_wp2_with fail
 have hz:=H.out.zle
 rcases zzc hr.out with ⟨j1,er,hx,hq⟩|⟨a1,j1,hx,hq⟩
 ·exact (zzm E _ i d ⟨#[40]⟩ (P E.T n) _ S0.out.1 (hid (by decide)) hx).mono fun e w' h=>by obtain ⟨rfl,hg⟩:=h;exact ⟨rfl,by rw [hq];exact ⟨rfl,S0.out.2.trans hg⟩⟩
 refine (zzm E _ i d ⟨#[40]⟩ (P E.T n) _ S0.out.1 (hid (by decide)) hx).mono ?_
 rintro e w1 ⟨v1,rfl,-,hst⟩
 have S1:=hid (S0.out.trans hst)
 have z1:=hst.2.size
 clear hst
 have HR1:=hid hq
 clear hx hq
 go_wp2_with fail
 by_cases ht:(E.T j1).text=cRB
 ·skip
  have h0:=zq9 HR1.out ht
  have HR2:=hid (zq4 h0)
  clear h0
  have HQ:=hid (zz7 HR2.out)
  refine (zke E _ j1 d ⟨#[41]⟩ S1.out.1 ht (hid (by decide))).mono ?_
  rintro e w3 ⟨rfl,hst⟩
  have S3:=hid (S1.out.trans hst)
  have z3:=hst.2.size
  clear hst
  clear ht
  go_wp2_with fail
  go_ret
  rw [HQ.out]
  exact ⟨_,rfl,vl_end (KidsIn.nil _ _ _) (by omega),S3.out⟩
 ·skip
  have HR4:=hid (zk6 HR1.out ht)
  refine (zk5 E _ j1 d ⟨#[41]⟩ S1.out.1 ht).mono ?_
  rintro e w5 ⟨rfl,hb⟩
  have S5:=hid (S1.out.below hb)
  have z5:=hb.size
  clear hb
  clear ht
  go_wp2_with fail
  have K:=hid (KidsIn.nil (fun x=>w.heap.size - 1<x) E.pl w5)
  have KL:=hid K.out.lt
  rcases zzc HR4.out with ⟨j6,er,hx,hq⟩|⟨a6,j6,hx,hq⟩
  ·exact (zwh E _ j1 d 5 (P E.T n) _ S5.out.1 (by omega) hx).mono fun e w' h=>by obtain ⟨rfl,hg⟩:=h;exact ⟨rfl,by rw [hq];exact ⟨rfl,S5.out.2.trans hg⟩⟩
  have hp1:=z2l (z0g S5.out.1.sent 5 _) hx
  refine (zwh E _ j1 d 5 (P E.T n) _ S5.out.1 (by omega) hx).mono ?_
  rintro e w6 ⟨v6,rfl,⟨nb6,hv,hn⟩,hst⟩
  obtain rfl:=hv
  unfold zzd
  have K':=hid (K.out.st hst.2 (by omega))
  clear K
  have K:=K'
  clear K'
  have N6:=hid (hn.from (B:=(w.heap.size - 1)) (by omega))
  have M6:=hid hn
  clear hn
  have S6:=hid (S5.out.trans hst)
  have z6:=hst.2.size
  clear hst
  have HR6:=hid hq
  clear hx hq
  obtain ⟨rs,hrs,hbad,hok⟩:=zvs HR6.out
  have HRS:=hid hrs
  have HBAD:Hid (∀ j e,preR [a6] rs= .bad j e→r= .bad j e):=fun j e h=>hbad j e (preR_bad h)
  have HOK:Hid (∀ a j,preR [a6] rs= .ok a j→r= .ok a j):=fun a j h=>by obtain ⟨a',h1,h2⟩:=preR_ok h;rw [zz7 (hok a' j h1),h2];rfl
  clear hrs hbad hok
  have h1i:1≤j6:=by omega
  have K1:=hid (zxk N6.out (by omega))
  have N6':=hid (N6.out.bl (b1 w6 (.cells #[.pointer (some ⟨nb6,0,none⟩)] 25)))
  clear N6
  have N6:=N6'
  clear N6'
  have M6':=hid (M6.out.bl (b1 w6 (.cells #[.pointer (some ⟨nb6,0,none⟩)] 25)))
  clear M6
  have M6:=M6'
  clear M6'
  have S7:=hid (S6.out.below (b1 w6 (.cells #[.pointer (some ⟨nb6,0,none⟩)] 25)))
  have z7:=(b1 w6 (.cells #[.pointer (some ⟨nb6,0,none⟩)] 25)).size
  have y7:w6.heap.size<(w6.alloc (.cells #[.pointer (some ⟨nb6,0,none⟩)] 25)).heap.size:=by simp
  go_wp2_with fail
  generalize w6.alloc (.cells #[.pointer (some ⟨nb6,0,none⟩)] 25)=w7 at*
  go_loopw [3] (fun v wr=>KRelL E n w .params 0 d (preR [a6] rs) v wr) (fun _ wr=>E.z - nx E wr)
  case atStart=>exact ⟨n,1,j6,[a6],rs,Nat.le_refl _,h1i,by omega,HRS,hid rfl,K1,S7⟩
  case round=>
   obtain ⟨m,k,iq,ts,rq,hm,hk,hB,HP,HE,K,S⟩:=hrel
   obtain ⟨m,rfl,hp⟩:=P_pos HP.out
   have HR:=hid hp
   clear hp HP
   have hiz:=S.out.1.ile
   have hnx:=S.out.1.at_nx
   have HNX:=hid hnx
   clear hnx
   by_cases ht:(E.T iq).text=zqd
   ·skip
    have h0:=zq9 HR.out ht
    have HR8:=hid (zq4 h0)
    clear h0
    go_wp2_with fail
    refine (zke E _ iq d ⟨#[44]⟩ S.out.1 ht (hid (by decide))).mono ?_
    rintro e w9 ⟨rfl,hst⟩
    have K':=hid (K.out.st hst.2 (by omega))
    clear K
    have K:=K'
    clear K'
    have S9:=hid (S.out.trans hst)
    have z9:=hst.2.size
    clear hst
    clear ht
    go_wp2_with fail
    have KL2:=hid K.out.lt
    have hiz2:=S9.out.1.ile
    rcases zzc HR8.out with ⟨j10,er,hx,hq⟩|⟨a10,j10,hx,hq⟩
    ·exact (zwh E _ (iq+1) d 5 (P E.T n) _ S9.out.1 (by omega) (z0m E.T (by omega) _ _ _ hx)).mono fun e w' h=>by obtain ⟨rfl,hg⟩:=h;exact ⟨rfl,by rw [HBAD.out j10 er (by rw [HE.out,hq];rfl)];exact ⟨rfl,S9.out.2.trans hg⟩⟩
    have hpr:=z2l (z0g S9.out.1.sent 5 _) hx
    refine (zwh E _ (iq+1) d 5 (P E.T n) _ S9.out.1 (by omega) (z0m E.T (by omega) _ _ _ hx)).mono ?_
    rintro e w10 ⟨v10,rfl,⟨nb10,hv,hn⟩,hst⟩
    obtain rfl:=hv
    unfold zzd
    have K':=hid (K.out.st hst.2 (by omega))
    clear K
    have K:=K'
    clear K'
    have N10:=hid (hn.from (B:=(w.heap.size - 1)) (by omega))
    have M10:=hid hn
    clear hn
    have S10:=hid (S9.out.trans hst)
    have z10:=hst.2.size
    clear hst
    rcases zxx hq with ⟨j9,er,hy,hq2⟩|⟨a9,j9,hy,hq2⟩
    ·skip
     have HP:Hid (P E.T m .params 0 j10=some (.bad j9 er)):=hy
     have HE2:Hid (preR [a6] rs=preR (ts++ [a10]) (.bad j9 er)):=by show _=_;rw [HE.out,hq2];rfl
     clear hx hq hy hq2
     have L:=hid (show (w10.alloc (.cells #[.pointer (some ⟨nb10,0,none⟩)] 25)).cell? ⟨w10.heap.size,0,none⟩=some (.pointer (some ⟨nb10,0,none⟩)) by simp [go_sem])
     have K':=hid (K.out.bl (b1 w10 (.cells #[.pointer (some ⟨nb10,0,none⟩)] 25)))
     clear K
     have K:=K'
     clear K'
     have N10':=hid (N10.out.bl (b1 w10 (.cells #[.pointer (some ⟨nb10,0,none⟩)] 25)))
     clear N10
     have N10:=N10'
     clear N10'
     have M10':=hid (M10.out.bl (b1 w10 (.cells #[.pointer (some ⟨nb10,0,none⟩)] 25)))
     clear M10
     have M10:=M10'
     clear M10'
     have S11:=hid (S10.out.below (b1 w10 (.cells #[.pointer (some ⟨nb10,0,none⟩)] 25)))
     have z11:=(b1 w10 (.cells #[.pointer (some ⟨nb10,0,none⟩)] 25)).size
     have y11:w10.heap.size<(w10.alloc (.cells #[.pointer (some ⟨nb10,0,none⟩)] 25)).heap.size:=by simp
     go_wp2_with (at_builtin;refine Hid.out ?_)
     generalize w10.alloc (.cells #[.pointer (some ⟨nb10,0,none⟩)] 25)=w11 at*
     refine hid ?_
     refine zzs rfl (.tmp 13) (.tmp 16) rfl (w.heap.size - 1) E.pl _ k ts rfl K.out nb10 a10 N10.out (fun g hg=>M10.out.weak fun x hx _=>⟨by omega,by have:=KL2.out g hg;omega⟩) _ rfl L.out (by omega) (by omega) ?_
     intro g12 cap12 w12 hk hg hy
     have S12:=hid (ST.grow H.out S11.out hg (fun y e=>by have:=hy y e;omega))
     have z12:=hg.size
     clear K
     have K:=hid hk
     clear hk hg hy
     have hnx2:=S12.out.1.at_nx
     have HNX2:=hid hnx2
     clear hnx2
     go_wp2_with fail
     go_roundw
     case rel=>exact ⟨m,k+1,_,_,_,by omega,by omega,by omega,HP,HE2,K,S12⟩
     case measure=>rw [HNX.out,HNX2.out];omega
    ·skip
     have HP:Hid (P E.T m .params 0 j10=some (.ok a9 j9)):=hy
     have HE2:Hid (preR [a6] rs=preR (ts++ [a10]) (.ok a9 j9)):=by show _=_;rw [HE.out,zz7 hq2];simp [preR]
     clear hx hq hy hq2
     have L:=hid (show (w10.alloc (.cells #[.pointer (some ⟨nb10,0,none⟩)] 25)).cell? ⟨w10.heap.size,0,none⟩=some (.pointer (some ⟨nb10,0,none⟩)) by simp [go_sem])
     have K':=hid (K.out.bl (b1 w10 (.cells #[.pointer (some ⟨nb10,0,none⟩)] 25)))
     clear K
     have K:=K'
     clear K'
     have N10':=hid (N10.out.bl (b1 w10 (.cells #[.pointer (some ⟨nb10,0,none⟩)] 25)))
     clear N10
     have N10:=N10'
     clear N10'
     have M10':=hid (M10.out.bl (b1 w10 (.cells #[.pointer (some ⟨nb10,0,none⟩)] 25)))
     clear M10
     have M10:=M10'
     clear M10'
     have S13:=hid (S10.out.below (b1 w10 (.cells #[.pointer (some ⟨nb10,0,none⟩)] 25)))
     have z13:=(b1 w10 (.cells #[.pointer (some ⟨nb10,0,none⟩)] 25)).size
     have y13:w10.heap.size<(w10.alloc (.cells #[.pointer (some ⟨nb10,0,none⟩)] 25)).heap.size:=by simp
     go_wp2_with (at_builtin;refine Hid.out ?_)
     generalize w10.alloc (.cells #[.pointer (some ⟨nb10,0,none⟩)] 25)=w13 at*
     refine hid ?_
     refine zzs rfl (.tmp 13) (.tmp 16) rfl (w.heap.size - 1) E.pl _ k ts rfl K.out nb10 a10 N10.out (fun g hg=>M10.out.weak fun x hx _=>⟨by omega,by have:=KL2.out g hg;omega⟩) _ rfl L.out (by omega) (by omega) ?_
     intro g14 cap14 w14 hk hg hy
     have S14:=hid (ST.grow H.out S13.out hg (fun y e=>by have:=hy y e;omega))
     have z14:=hg.size
     clear K
     have K:=hid hk
     clear hk hg hy
     have hnx2:=S14.out.1.at_nx
     have HNX2:=hid hnx2
     clear hnx2
     go_wp2_with fail
     go_roundw
     case rel=>exact ⟨m,k+1,_,_,_,by omega,by omega,by omega,HP,HE2,K,S14⟩
     case measure=>rw [HNX.out,HNX2.out];omega
   ·skip
    have HR15:=hid (zk6 HR.out ht)
    go_wp2_with fail
    refine (zk5 E _ iq d ⟨#[44]⟩ S.out.1 ht).mono ?_
    rintro e w16 ⟨rfl,hb⟩
    have K':=hid (K.out.bl hb)
    clear K
    have K:=K'
    clear K'
    have S16:=hid (S.out.below hb)
    have z16:=hb.size
    clear hb
    clear ht
    go_wp2_with fail
    rcases zzc HR15.out with ⟨j17,er,hx,hq⟩|⟨a17,j17,hx,hq⟩
    ·exact (zzm E _ iq d ⟨#[41]⟩ (P E.T m) _ S16.out.1 (hid (by decide)) hx).mono fun e w' h=>by obtain ⟨rfl,hg⟩:=h;exact ⟨rfl,by rw [HBAD.out j17 er (by rw [HE.out,hq];rfl)];exact ⟨rfl,S16.out.2.trans hg⟩⟩
    refine (zzm E _ iq d ⟨#[41]⟩ (P E.T m) _ S16.out.1 (hid (by decide)) hx).mono ?_
    rintro e w17 ⟨v17,rfl,-,hst⟩
    have K':=hid (K.out.st hst.2 (by omega))
    clear K
    have K:=K'
    clear K'
    have S17:=hid (S16.out.trans hst)
    have z17:=hst.2.size
    clear hst
    have HQ:Hid (r= .ok ts j17):=HOK.out _ _ (by rw [HE.out,zz7 hq];simp [preR])
    clear hx hq
    go_wp2_with fail
    go_ret
    rw [HQ.out]
    exact ⟨_,rfl,vl_end K.out (by omega),S17.out⟩
end Go.Proofs.YtkahbhfbgdbnfaaGreatDoor
