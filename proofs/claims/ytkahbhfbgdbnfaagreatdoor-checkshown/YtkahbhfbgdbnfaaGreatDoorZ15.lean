/- CONTRACT: expr of the shower. Nobody but the shower's own blocks has turned. -/
import Derived.Test.YtkahbhfbgdbnfaaGreatDoorZ14
set_option maxRecDepth 100000
set_option maxHeartbeats 1000000
namespace Go.Proofs.YtkahbhfbgdbnfaaGreatDoor
open Go.Lib (hid)
open Go.RowKit
theorem expr_21 (w:World) (sb:Nat) (v:Value) (xs:List Tx) (pl:Nat→Nat) (b:Nat) (t:Tree) (h:SH w sb v xs) (hn:NodeAt (fun x=>x<sb) pl w b t) (hop:t.op=21) (hE:Hid (∀ (k:Nat) (u:Tree),t.kids[k]? =some u→ShE sb pl u)) (hl:xs.length+(([t.name]++([cLB]++zz3 (t.kids.map zzb)++ [cRB]))).length+1≤1000000):
 Calls Tryz.prog 103 #[.pointer (some ⟨sb,0,none⟩),.agg #[.pointer (some ⟨b,0,none⟩)]] w (SQ sb v w (xs++([t.name]++([cLB]++zz3 (t.kids.map zzb)++ [cRB])))):=by
 have H:=hid h
 have hlt:=h.lt
 have HBA:=hid (b1 w (.cells #[.pointer (some ⟨b,0,none⟩)] 25))
 have S0:=hid (SST.refl (h.below (b1 w (.cells #[.pointer (some ⟨b,0,none⟩)] 25))))
 have U:=hid (PtrAt.new w (some ⟨b,0,none⟩))
 have N:=hid (hn.bl (b1 w (.cells #[.pointer (some ⟨b,0,none⟩)] 25)))
 have l0:=U.out.lt
 clear h hn
 have hfo:=zx1
 have hfn:=zzw
 clear hfo hfn
 go_enter Tryz.func103,Tryz.ntmps103
 have U0:=U.out.c0
 go_wp2_with fail
 clear U0
 generalize w.alloc (.cells #[.pointer (some ⟨b,0,none⟩)] 25)=wa at*
 obtain ⟨Ao,co,hro⟩:=N.out.rowOf
 refine (zkq _ _ _ _ _ _ _ _ _ _ hro).mono ?_
 rintro e w1 ⟨rfl,hb⟩
 clear hro
 have U1:=hid (U.out.below hb)
 have N1:=hid (N.out.bl hb)
 have S1:=hid (S0.out.below hb)
 have z1:=hb.size
 clear U N
 have U:=U1
 have N:=N1
 clear U1 N1
 clear hb
 simp only [List.length_append,List.length_cons,List.length_nil] at hl
 have hcl:=zvq (t.kids.map zzb)
 rw [List.length_map] at hcl
 have U0:=U.out.c0
 go_wp2_with fail
 clear U0
 obtain ⟨Ao,co,hro⟩:=N.out.rowOf
 refine (zjr _ _ _ _ _ _ _ _ _ _ hro).mono ?_
 rintro e w2 ⟨rfl,hb⟩
 clear hro
 have U2:=hid (U.out.below hb)
 have N2:=hid (N.out.bl hb)
 have S2:=hid (S1.out.below hb)
 have z2:=hb.size
 clear U N
 have U:=U2
 have N:=N2
 clear U2 N2
 clear hb
 have C3:=hid (show ∀ (j:Nat) (y:Tx),([t.name]:List Tx)[j]? =some y→(w2.alloc (.cells #[.string ⟨t.name.toArray⟩] 9)).cell? ⟨w2.heap.size,j,none⟩=some (.string ⟨y.toArray⟩) from zzl w2 [t.name])
 have U3:=hid (U.out.below (b1 w2 (.cells #[.string ⟨t.name.toArray⟩] 9)))
 have N3:=hid (N.out.bl (b1 w2 (.cells #[.string ⟨t.name.toArray⟩] 9)))
 have S3:=hid (S2.out.below (b1 w2 (.cells #[.string ⟨t.name.toArray⟩] 9)))
 have z3:=(b1 w2 (.cells #[.string ⟨t.name.toArray⟩] 9)).size
 clear U N
 have U:=U3
 have N:=N3
 clear U3 N3
 have U0:=U.out.c0
 go_wp2_with fail
 clear U0
 generalize w2.alloc (.cells #[.string ⟨t.name.toArray⟩] 9)=wb3 at*
 refine (zz8 _ sb _ _ w2.heap.size 1 [t.name] S3.out.sh (hid rfl) C3 (by omega) (by first|omega|(simp only [List.length_append,List.length_cons,List.length_nil];omega)|(simp only [List.length_append,List.length_cons,List.length_nil] at hl ⊢;omega))).mono ?_
 rintro e w4 ⟨v4,rfl,hs⟩
 clear C3
 have U4:=hid (U.out.sg hs.sg (by omega) (zxd S3.out H.out l0))
 have N4:=hid (N.out.low (hs.sg.low S3.out.sh))
 have S4:=hid (S3.out.trans hs)
 have z4:=hs.sg.size
 clear U N hs
 have U:=U4
 have N:=N4
 clear U4 N4
 have U0:=U.out.c0
 go_wp2_with fail
 have D0:Hid (Below w4.heap.size w4 w4.drew):=(Below.refl _ _).drew
 obtain ⟨Ao,co,hro⟩:=(N.out.bl D0.out).rowOf
 have R0:=hid hro
 clear hro
 have HSH:Hid (Shows 103 sb pl t t.kids.length (t.kids.map zzb)):=by
  intro k u ys hk hu hy w1 v1 xs1 nb h1 h2 h3
  rw [List.getElem?_map,hu] at hy
  obtain rfl:=Option.some.inj hy
  exact hE.out k u hu w1 v1 xs1 nb h1 h2 h3
 go_region_with (first|(go_at_call 11;refine (zw2 _ _ _ _ _ _ _ _ _ _ R0.out).mono ?_;rintro e w12 ⟨rfl,hb12⟩;have c12:=((U.out.below D0.out).below hb12).c0;have HB12:=hid hb12;clear hb12)|(go_at_call 100;refine (z0v _ sb _ _ pl b t t.kids.length (t.kids.map zzb) ((S4.out.below D0.out).below HB12.out).sh ((N.out.bl D0.out).bl HB12.out) (hid (List.length_map ..)) (Nat.le_refl _) HSH (by simp only [List.length_append,List.length_cons,List.length_nil];omega)).mono ?_;rintro e w9 ⟨v9,rfl,hs⟩;have HS:=hid hs;clear hs))
 all_goals
  have S9:=hid (((S4.out.below D0.out).below HB12.out).trans HS.out)
  go_wp2_with fail
  first|refine bodyPost_end (v:= .tuple #[]) (by simp [results,Tryz.results103,go_sem]) rfl ?_ |refine bodyPost_ret (v:= .tuple #[]) (by simp [results,Tryz.results103,go_sem]) rfl ?_
  have hfin:=((SST.refl H.out).below HBA.out).trans S9.out
  have hx:xs++([t.name]++([cLB]++zz3 (t.kids.map zzb)++ [cRB]))=((xs++ [t.name])++([cLB]++zz3 (t.kids.map zzb)++ [cRB])):=by simp [List.append_assoc]
  first|exact ⟨_,rfl,hfin.cast hx.symm⟩|exact ⟨_,rfl,hfin.cast (by simp [List.append_assoc])⟩
theorem expr_24 (w:World) (sb:Nat) (v:Value) (xs:List Tx) (pl:Nat→Nat) (b:Nat) (t:Tree) (u0 u1:Tree) (h:SH w sb v xs) (hn:NodeAt (fun x=>x<sb) pl w b t) (hop:t.op=24) (hu0:Hid (t.kids[0]? =some u0)) (hu1:Hid (t.kids[1]? =some u1)) (hE:Hid (∀ (k:Nat) (u:Tree),t.kids[k]? =some u→ShE sb pl u)) (hl:xs.length+(([cLB]++zzb u0++ [zqj t.n]++zzb u1++ [cRB])).length+1≤1000000):
 Calls Tryz.prog 103 #[.pointer (some ⟨sb,0,none⟩),.agg #[.pointer (some ⟨b,0,none⟩)]] w (SQ sb v w (xs++([cLB]++zzb u0++ [zqj t.n]++zzb u1++ [cRB]))):=by
 have H:=hid h
 have hlt:=h.lt
 have HBA:=hid (b1 w (.cells #[.pointer (some ⟨b,0,none⟩)] 25))
 have S0:=hid (SST.refl (h.below (b1 w (.cells #[.pointer (some ⟨b,0,none⟩)] 25))))
 have U:=hid (PtrAt.new w (some ⟨b,0,none⟩))
 have N:=hid (hn.bl (b1 w (.cells #[.pointer (some ⟨b,0,none⟩)] 25)))
 have l0:=U.out.lt
 clear h hn
 have hfo:=zx1
 have hfn:=zzw
 clear hfo hfn
 go_enter Tryz.func103,Tryz.ntmps103
 have U0:=U.out.c0
 go_wp2_with fail
 clear U0
 generalize w.alloc (.cells #[.pointer (some ⟨b,0,none⟩)] 25)=wa at*
 obtain ⟨Ao,co,hro⟩:=N.out.rowOf
 refine (zkq _ _ _ _ _ _ _ _ _ _ hro).mono ?_
 rintro e w1 ⟨rfl,hb⟩
 clear hro
 have U1:=hid (U.out.below hb)
 have N1:=hid (N.out.bl hb)
 have S1:=hid (S0.out.below hb)
 have z1:=hb.size
 clear U N
 have U:=U1
 have N:=N1
 clear U1 N1
 clear hb
 simp only [List.length_append,List.length_cons,List.length_nil] at hl
 have U0:=U.out.c0
 go_wp2_with fail
 have D0:Hid (Below w1.heap.size w1 w1.drew):=(Below.refl _ _).drew
 obtain ⟨Ao,co,hro⟩:=(N.out.bl D0.out).rowOf
 have R0:=hid hro
 clear hro
 go_region_with (first|(go_at_call 30;refine (n_of _ _ _ _ _ _ _ _ _ _ R0.out).mono ?_;rintro e w12 ⟨rfl,hb12⟩;have c12:=((U.out.below D0.out).below hb12).c0;have HB12:=hid hb12;clear hb12)|(go_at_call 141;refine (sign_txt t.n _ ((S1.out.below D0.out).below HB12.out).sh.good.signs).mono ?_;rintro e w13 ⟨rfl,rfl⟩)|(go_at_call 142;refine (pair_shown _ sb _ _ pl b t (zqj t.n) u0 u1 ((S1.out.below D0.out).below HB12.out).sh ((N.out.bl D0.out).bl HB12.out) hu0 hu1 hE (by simp only [List.length_append,List.length_cons,List.length_nil];omega)).mono ?_;rintro e w9 ⟨v9,rfl,hs⟩;have HS:=hid hs;clear hs))
 all_goals
  have S9:=hid (((S1.out.below D0.out).below HB12.out).trans HS.out)
  go_wp2_with fail
  first|refine bodyPost_end (v:= .tuple #[]) (by simp [results,Tryz.results103,go_sem]) rfl ?_ |refine bodyPost_ret (v:= .tuple #[]) (by simp [results,Tryz.results103,go_sem]) rfl ?_
  have hfin:=((SST.refl H.out).below HBA.out).trans S9.out
  have hx:xs++([cLB]++zzb u0++ [zqj t.n]++zzb u1++ [cRB])=(xs++([cLB]++zzb u0++ [zqj t.n]++zzb u1++ [cRB])):=by simp [List.append_assoc]
  first|exact ⟨_,rfl,hfin.cast hx.symm⟩|exact ⟨_,rfl,hfin.cast (by simp [List.append_assoc])⟩
theorem expr_zero (w:World) (sb:Nat) (v:Value) (xs:List Tx) (h:SH w sb v xs):
 Calls Tryz.prog 103 #[.pointer (some ⟨sb,0,none⟩),.agg #[.pointer none]] w (SQ sb v w xs):=by
 have H:=hid h
 have HBA:=hid (b1 w (.cells #[.pointer none] 25))
 have S0:=hid (SST.refl (h.below (b1 w (.cells #[.pointer none] 25))))
 have U:=hid (PtrAt.new w none)
 have l0:=U.out.lt
 clear h
 go_enter Tryz.func103,Tryz.ntmps103
 have U0:=U.out.c0
 go_wp2_with fail
 clear U0
 generalize w.alloc (.cells #[.pointer none] 25)=wa at*
 refine (zkq _ _ _ _ _ _ _ _ _ _ (show RowOf wa none 0 ⟨#[]⟩ ⟨#[]⟩ 0 0 none 0 0 from .inr ⟨rfl,rfl,rfl,rfl,rfl,rfl,rfl,rfl,rfl⟩)).mono ?_
 rintro e w1 ⟨rfl,hb⟩
 have S1:=hid (S0.out.below hb)
 clear hb
 go_wp2_with fail
 refine bodyPost_end (v:= .tuple #[]) (by simp [results,Tryz.results103,go_sem]) rfl ?_
 exact ⟨_,rfl,((SST.refl H.out).below HBA.out).trans S1.out⟩
theorem zk2 {t:Tree} {k:Nat} (h:t.op=k):zzb t=exprOf k t.name t.n (t.kids.map zzb):=by rw [showE_eq,h]
theorem zqv {t u:Tree} {i:Nat} (h:t.kids[i]? =some u):(t.kids.map zzb).getD i []=zzb u:=kidE_some h
theorem exprS_any (sb:Nat) (pl:Nat→Nat):∀ (N:Nat) (t:Tree),zxs t≤N→OkT t→ShE sb pl t:=by
 intro N
 induction N with
 |zero=>intro t h;have:=zkl t;omega
 |succ N ih=>
  intro t hs hT w v xs b h hn hl
  have hE:Hid (∀ (k:Nat) (u:Tree),t.kids[k]? =some u→ShE sb pl u):=fun k u hu=>ih u (by have:=zk0 hu;omega) (hT.kid hu)
  have hA:=hT.least
  unfold z08 at hA
  by_cases hr:t.op<15∨26<t.op
  ·have e:zzb t= []:=by rw [showE_eq];unfold exprOf;repeat rw [if_neg (by omega)]
   rw [e] at hl ⊢
   exact expr_else w sb v xs pl b t h hn (hid hr) hl
  have hx:t.op=15∨t.op=16∨t.op=17∨t.op=18∨t.op=19∨t.op=20∨t.op=21∨t.op=22∨t.op=23∨t.op=24∨t.op=25∨t.op=26:=by omega
  rcases hx with o|o|o|o|o|o|o|o|o|o|o|o
  ·have e:zzb t= [zjm t.n]:=by rw [zk2 o];rfl
   rw [e] at hl ⊢
   exact expr_15 w sb v xs pl b t h hn o (hT.num o).1 (hT.num o).2 hl
  ·have e:zzb t= [z0b t.n]:=by rw [zk2 o];rfl
   rw [e] at hl ⊢
   exact expr_16 w sb v xs pl b t h hn o hl
  ·have e:zzb t= [kNil]:=by rw [zk2 o];rfl
   rw [e] at hl ⊢
   exact expr_17 w sb v xs pl b t h hn o hl
  ·have e:zzb t= [t.name]:=by rw [zk2 o];rfl
   rw [e] at hl ⊢
   exact expr_18 w sb v xs pl b t h hn o hl
  ·have e:zzb t= [kNew,cLB,t.name,cRB]:=by rw [zk2 o];rfl
   rw [e] at hl ⊢
   exact expr_19 w sb v xs pl b t h hn o hl
  ·simp [o] at hA
   obtain ⟨u0,h0⟩:=zx4 (t:=t) (i:=0) (by omega)
   have e:zzb t=zzb u0++ [cDot,t.name]:=by rw [zk2 o,←zqv h0];rfl
   rw [e] at hl ⊢
   exact expr_20 w sb v xs pl b t u0 h hn o (hid h0) hE hl
  ·have e:zzb t= [t.name]++([cLB]++zz3 (t.kids.map zzb)++ [cRB]):=by rw [zk2 o];rfl
   rw [e] at hl ⊢
   exact expr_21 w sb v xs pl b t h hn o hE hl
  ·have e:zzb t= [z1n,cLB,cRB]:=by rw [zk2 o];rfl
   rw [e] at hl ⊢
   exact expr_22 w sb v xs pl b t h hn o hl
  ·simp [o] at hA
   obtain ⟨u0,h0⟩:=zx4 (t:=t) (i:=0) (by omega)
   have e:zzb t= [cLB,zqj t.n]++zzb u0++ [cRB]:=by rw [zk2 o,←zqv h0];rfl
   rw [e] at hl ⊢
   exact expr_23 w sb v xs pl b t u0 h hn o (hid h0) hE hl
  ·simp [o] at hA
   obtain ⟨u0,h0⟩:=zx4 (t:=t) (i:=0) (by omega)
   obtain ⟨u1,h1⟩:=zx4 (t:=t) (i:=1) (by omega)
   have e:zzb t= [cLB]++zzb u0++ [zqj t.n]++zzb u1++ [cRB]:=by rw [zk2 o,←zqv h0,←zqv h1];rfl
   rw [e] at hl ⊢
   exact expr_24 w sb v xs pl b t u0 u1 h hn o (hid h0) (hid h1) hE hl
  ·simp [o] at hA
   obtain ⟨u0,h0⟩:=zx4 (t:=t) (i:=0) (by omega)
   obtain ⟨u1,h1⟩:=zx4 (t:=t) (i:=1) (by omega)
   have e:zzb t= [cLB]++zzb u0++ [cAnd]++zzb u1++ [cRB]:=by rw [zk2 o,←zqv h0,←zqv h1];rfl
   rw [e] at hl ⊢
   exact expr_25 w sb v xs pl b t u0 u1 h hn o (hid h0) (hid h1) hE hl
  ·simp [o] at hA
   obtain ⟨u0,h0⟩:=zx4 (t:=t) (i:=0) (by omega)
   obtain ⟨u1,h1⟩:=zx4 (t:=t) (i:=1) (by omega)
   have e:zzb t= [cLB]++zzb u0++ [cOr]++zzb u1++ [cRB]:=by rw [zk2 o,←zqv h0,←zqv h1];rfl
   rw [e] at hl ⊢
   exact expr_26 w sb v xs pl b t u0 u1 h hn o (hid h0) (hid h1) hE hl
end Go.Proofs.YtkahbhfbgdbnfaaGreatDoor
